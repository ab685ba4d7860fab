/- SplitNear answers true, whatever the total and the weights. -/
import Derived.Test.YtdbjfginigekbaaS9
namespace Go.Proofs.Ytdbjfginigekbaa
open Go.RowKit
set_option linter.unusedVariables false

set_option maxHeartbeats 8000000 in
set_option maxRecDepth 100000 in
theorem splitNear_any (T : Int) (p : Option Addr) (len cap : Nat) (zs : List Int) (w : World) (hT : Amt T) (hs : len ≤ 70 → Seq64 w p len zs) :
    Calls Try.prog 5 #[.int .i64 T, .slice p len cap] w fun e w' => e = .returned (.bool true) ∧ Below w.heap.size w w' := by
  have haw := awake_any w
  by_cases h70 : 70 < len
  · have h70z : (70 : Int) < (len : Int) := by omega
    clear hs
    go_enter Try.func5, Try.ntmps5
    go_wp2_with (first | (go_at_call 7; refine haw.mono ?_; rintro e w1 ⟨rfl, hb1⟩))
    go_ret
    exact ⟨rfl, hb1⟩
  · have h70z : ¬ (70 : Int) < (len : Int) := by omega
    replace hs := hs (by omega)
    go_enter Try.func5, Try.ntmps5
    go_upto_region 5 with (first | (go_at_call 7; refine haw.mono ?_; rintro e w1 ⟨rfl, hb1⟩))
    have hcon := shares_any T p len cap zs w1 hT (hs.kept hb1)
    rw [decide_eq_false (by omega : ¬ (70 : Int) < (len : Int))]
    go_upto_region 6 with (first | (go_at_call 8; refine hcon.mono ?_; rintro e w2 ⟨hb2, hout⟩; rcases hout with ⟨hE, rfl⟩ | ⟨hE, g, rfl, hg, hI⟩))
    · clear hcon haw
      have hB : Below w.heap.size w w2 := hb1.trans (hb2.mono hb1.size)
      have hsum := sum_any p len cap zs w2 (hs.kept hB)
      generalize shE T zs = c at *
      generalize fitV (sumL zs) = sv at *
      generalize fitE (sumL zs) = se at *
      go_wp2_with (first | (go_at_call 15; refine hsum.mono ?_; rintro e w3 ⟨rfl, hb3⟩))
      go_ret
      exact ⟨by simp [hE], hB.trans (hb3.mono hB.size)⟩
    · clear hcon haw
      obtain ⟨hc, hS1, hS2, h64, hT0, hz0⟩ := shE_zero hE
      have hT1 := hT.2
      have hB : Below w.heap.size w w2 := hb1.trans (hb2.mono hb1.size)
      have hsk := hs.kept hB
      have hsum := sum_any p len cap zs w2 hsk
      rw [← (fit_yes (sumL zs) (by omega) hS2).1, ← (fit_yes (sumL zs) (by omega) hS2).2] at hsum
      obtain ⟨hl, hz, hm, hcells⟩ := hsk
      rw [hl]
      have hin : ∀ i, i < len → i < zs.length := fun i hi => by rw [hl]; exact hi
      have hbd : ∀ i, i < len → 0 ≤ share T (sumL zs) zs i ∧ share T (sumL zs) zs i ≤ T := fun i hi => ⟨(share_bd T zs hT0 hS1 hz0 i (hin i hi)).1, (share_bd T zs hT0 hS1 hz0 i (hin i hi)).2.1⟩
      have hnear : ∀ i, i < len → T * zs.getD i 0 / sumL zs ≤ share T (sumL zs) zs i ∧ share T (sumL zs) zs i ≤ -(-(T * zs.getD i 0) / sumL zs) := fun i hi => share_near T zs hT0 hS1 hz0 i (hin i hi)
      have hpair : ∀ i k, i < len → k < len → (zs.getD k 0 < zs.getD i 0 → share T (sumL zs) zs k ≤ share T (sumL zs) zs i) ∧
        (zs.getD i 0 = zs.getD k 0 → share T (sumL zs) zs i - 1 ≤ share T (sumL zs) zs k ∧ (i < k → share T (sumL zs) zs k ≤ share T (sumL zs) zs i)) := fun i k hi hk => share_pair T zs hT0 hS1 hz0 i k (hin i hi) (hin k hk)
      have hlow : ∀ i, i < len → ∀ w', Calls Try.prog 16 #[.int .i64 T, .int .i64 (zs.getD i 0), .int .i64 (sumL zs), .bool false] w' fun e w'' => e = .returned (.tuple #[.int .i64 (T * zs.getD i 0 / sumL zs), .int .i64 0]) ∧ Below w'.heap.size w' w'' := fun i hi w' => by
        have hmem : zs.getD i 0 ∈ zs := by rw [List.getD_eq_getElem?_getD, List.getElem?_eq_getElem (hin i hi)]; exact List.getElem_mem _
        obtain ⟨q0, q1, _⟩ := part_bd T (zs.getD i 0) (sumL zs) hT0 (hz0 _ hmem) (mem_le_sum hz0 _ hmem) hS1
        have h := muldiv_any T (zs.getD i 0) (sumL zs) false w' hT.1 hT.2 (hz i).1 (hz i).2 hS1 hS2
        have e : muldiv T (zs.getD i 0) (sumL zs) false = T * zs.getD i 0 / sumL zs := rfl
        rwa [e, ← (fit_yes (T * zs.getD i 0 / sumL zs) (by omega) (by omega)).1, ← (fit_yes (T * zs.getD i 0 / sumL zs) (by omega) (by omega)).2] at h
      have hhigh : ∀ i, i < len → ∀ w', Calls Try.prog 16 #[.int .i64 T, .int .i64 (zs.getD i 0), .int .i64 (sumL zs), .bool true] w' fun e w'' => e = .returned (.tuple #[.int .i64 (-(-(T * zs.getD i 0) / sumL zs)), .int .i64 0]) ∧ Below w'.heap.size w' w'' := fun i hi w' => by
        obtain ⟨q0, q1⟩ := ceil_bd T zs hT0 hS1 hz0 i (hin i hi)
        have h := muldiv_any T (zs.getD i 0) (sumL zs) true w' hT.1 hT.2 (hz i).1 (hz i).2 hS1 hS2
        have e : muldiv T (zs.getD i 0) (sumL zs) true = -(-(T * zs.getD i 0) / sumL zs) := rfl
        rwa [e, ← (fit_yes (-(-(T * zs.getD i 0) / sumL zs)) (by omega) (by omega)).1, ← (fit_yes (-(-(T * zs.getD i 0) / sumL zs)) (by omega) (by omega)).2] at h
      have hat : ∀ i, i < len → (shares T zs).getD i 0 = share T (sumL zs) zs i := fun i hi => shares_at T zs i (hin i hi)
      have hsl : (shares T zs).length = len := by rw [shares_len, hl]
      replace hl := Lib.hid hl
      replace hz := Lib.hid hz
      replace hcells := Lib.hid hcells
      replace hbd := Lib.hid hbd
      replace hat := Lib.hid hat
      replace hsl := Lib.hid hsl
      replace hI := Lib.hid hI
      replace hz0 := Lib.hid hz0
      replace hnear := Lib.hid hnear
      replace hpair := Lib.hid hpair
      replace hlow := Lib.hid hlow
      replace hhigh := Lib.hid hhigh
      clear hs hc h64 hb1 hb2 hT hE hin
      generalize hS : sumL zs = S at *
      replace hS := Lib.hid hS
      go_upto_region 10 with (first | (go_at_call 15; refine hsum.mono ?_; rintro e w3 ⟨rfl, hb3⟩))
      clear hsum
      go_loopw [50] (fun i wr => ∃ k : Nat, k ≤ len ∧ i = .int .i64 k ∧ Below w2.heap.size w2 wr) (fun i _ => len - (intOf i).toNat)
      case atStart => exact ⟨0, by omega, rfl, hb3⟩
      case round =>
        clear hb3
        obtain ⟨k, hk, rfl, hb3⟩ := hrel
        by_cases hlt : k < len
        · obtain ⟨b, off, rfl, hblt, hcc⟩ := hcells.out.resolve_left (by omega)
          have e1 : wr.cell? ⟨b, off + k, none⟩ = some (.int .i64 (zs.getD k 0)) := (hb3.cell (p := ⟨b, off + k, none⟩) hblt).trans (hcc k hlt)
          obtain ⟨f0, f1⟩ := hbd.out k hlt
          obtain ⟨n0, n1⟩ := hnear.out k hlt
          have h1 := hlow.out k hlt
          have h2 := hhigh.out k hlt
          have hpk := fun j hj => hpair.out k j hlt hj
          have hI2 := fun (W : World) (hb : Below w2.heap.size w2 W) => (hI.out.kept hb).cell (i := k) (by rw [hsl.out]; exact hlt)
          rw [hat.out k hlt] at hI2
          have hkz : (k : Int) < (len : Int) := by omega
          generalize T * zs.getD k 0 / S = lo at *
          generalize -(-(T * zs.getD k 0) / S) = hi at *
          generalize zs.getD k 0 = z at *
          generalize share T S zs k = f at *
          replace hb3 := Lib.hid hb3
          replace hcc := Lib.hid hcc
          replace hpk := Lib.hid hpk
          replace hI2 := Lib.hid hI2
          go_upto_region 13 with (first | (go_at_call 16; (with_reducible refine (h1 _).mono ?_); rintro e w4 ⟨rfl, hb4⟩))
          replace hb4 := Lib.hid hb4
          clear h1 e1
          go_upto_region 14 with (first | (go_at_call 16; (with_reducible refine (h2 _).mono ?_); rintro e w5 ⟨rfl, hb5⟩))
          have hb6 : Below w2.heap.size w2 w5 := (hb3.out.trans (hb4.out.mono hb3.out.size)).trans (hb5.mono (Nat.le_trans hb3.out.size hb4.out.size))
          have e2 := hI2.out w5 hb6
          replace hb6 := Lib.hid hb6
          clear h2 hb5
          go_upto_region 17 with (fail)
          clear e2 n0 n1
          go_loopw [93] (fun i wv => ∃ j : Nat, j ≤ len ∧ i = .int .i64 j ∧ Below w2.heap.size w2 wv) (fun i _ => len - (intOf i).toNat)
          case atStart => exact ⟨0, by omega, rfl, hb6.out⟩
          case round =>
            clear hb6
            obtain ⟨j, hj, rfl, hb6⟩ := hrel
            by_cases hlt2 : j < len
            · have c1 : wr.cell? ⟨b, off + j, none⟩ = some (.int .i64 (zs.getD j 0)) := (hb6.cell (p := ⟨b, off + j, none⟩) hblt).trans (hcc.out j hlt2)
              have c2 := hI2.out wr hb6
              have c3 := (hI.out.kept hb6).cell (i := j) (by rw [hsl.out]; exact hlt2)
              rw [hat.out j hlt2] at c3
              obtain ⟨g0, g1⟩ := hbd.out j hlt2
              obtain ⟨p1, p2⟩ := hpk.out j hlt2
              have hjz : (j : Int) < (len : Int) := by omega
              generalize zs.getD j 0 = x at *
              generalize share T S zs j = fj at *
              replace hb6 := Lib.hid hb6
              have wf : wrap64 (f - 1) = f - 1 := by unfold wrap64; omega
              rcases Int.lt_trichotomy x z with hx | hx | hx
              · have d1 : decide (z > x) = true := decide_eq_true hx
                have d2 : (z == x) = false := by simp; omega
                have hle := p1 hx
                have d3 : decide (f < fj) = false := decide_eq_false (by omega)
                clear p1 p2
                go_wp2_with fail
                go_quiet (fail)
                clear c1 c2 c3
                go_wp2_with fail
                go_roundw
                case rel => exact ⟨j + 1, by omega, by go_num, hb6.out.trans ((below_drawn wr nq).mono hb6.out.size)⟩
                case measure => simp [intOf]; omega
              · subst hx
                have d1 : decide (x > x) = false := decide_eq_false (by omega)
                have d2 : (x == x) = true := by simp
                obtain ⟨q1, q2⟩ := p2 rfl
                have d4 : decide (f - 1 > fj) = false := decide_eq_false (by omega)
                clear p1 p2
                by_cases hkj : k < j
                · have d5 : decide ((k : Int) < (j : Int)) = true := decide_eq_true (by omega)
                  have hle := q2 hkj
                  have d3 : decide (f < fj) = false := decide_eq_false (by omega)
                  clear q2
                  go_wp2_with fail
                  go_quiet (fail)
                  clear c1 c2 c3
                  go_wp2_with fail
                  go_roundw
                  case rel => exact ⟨j + 1, by omega, by go_num, hb6.out.trans ((below_drawn wr nq).mono hb6.out.size)⟩
                  case measure => simp [intOf]; omega
                · have d5 : decide ((k : Int) < (j : Int)) = false := decide_eq_false (by omega)
                  clear q2
                  go_wp2_with fail
                  go_quiet (fail)
                  clear c1 c2 c3
                  go_wp2_with fail
                  go_roundw
                  case rel => exact ⟨j + 1, by omega, by go_num, hb6.out.trans ((below_drawn wr nq).mono hb6.out.size)⟩
                  case measure => simp [intOf]; omega
              · have d1 : decide (z > x) = false := decide_eq_false (by omega)
                have d2 : (z == x) = false := by simp; omega
                clear p1 p2
                go_wp2_with fail
                go_quiet (fail)
                clear c1 c2 c3
                go_wp2_with fail
                go_roundw
                case rel => exact ⟨j + 1, by omega, by go_num, hb6.out.trans ((below_drawn wr nq).mono hb6.out.size)⟩
                case measure => simp [intOf]; omega
            · replace hb6 := Lib.hid hb6
              go_wp2_with fail
              go_roundw
              case rel => exact ⟨k + 1, by omega, by go_num, hb6.out⟩
              case measure => simp [intOf]; omega
        · have hkn : k = len := by omega
          subst hkn
          replace hb3 := Lib.hid hb3
          go_wp2_with fail
          go_ret
          exact ⟨rfl, hB.trans (hb3.out.mono hB.size)⟩

end Go.Proofs.Ytdbjfginigekbaa
