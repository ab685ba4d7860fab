/- SplitWhole answers true, whatever the total and the weights. -/
import Derived.Test.YtdbjfginigekbaaS8
namespace Go.Proofs.Ytdbjfginigekbaa
open Go.RowKit
set_option linter.unusedVariables false

set_option maxHeartbeats 4000000 in
set_option maxRecDepth 100000 in
theorem splitWhole_any (T : Int) (p : Option Addr) (len cap : Nat) (zs : List Int) (w : World) (hT : Amt T) (hs : len ≤ 70 → Seq64 w p len zs) :
    Calls Try.prog 4 #[.int .i64 T, .slice p len cap] w fun e w' => e = .returned (.bool true) ∧ Below w.heap.size w w' := by
  have haw := awake_any w
  by_cases h70 : 70 < len
  · have h70z : (70 : Int) < (len : Int) := by omega
    clear hs
    go_enter Try.func4, Try.ntmps4
    go_wp2_with (first | (go_at_call 7; refine haw.mono ?_; rintro e w1 ⟨rfl, hb1⟩))
    go_ret
    exact ⟨rfl, hb1⟩
  · have h70z : ¬ (70 : Int) < (len : Int) := by omega
    replace hs := hs (by omega)
    go_enter Try.func4, Try.ntmps4
    go_upto_region 5 with (first | (go_at_call 7; refine haw.mono ?_; rintro e w1 ⟨rfl, hb1⟩))
    have hcon := shares_any T p len cap zs w1 hT (hs.kept hb1)
    rw [decide_eq_false (by omega : ¬ (70 : Int) < (len : Int))]
    go_upto_region 6 with (first | (go_at_call 8; refine hcon.mono ?_; rintro e w2 ⟨hb2, hout⟩; rcases hout with ⟨hE, rfl⟩ | ⟨hE, g, rfl, hg, hI⟩))
    · clear hcon haw
      generalize shE T zs = c at *
      go_wp2_with fail
      go_ret
      exact ⟨rfl, hb1.trans (hb2.mono hb1.size)⟩
    · clear hcon haw
      obtain ⟨hc, hS1, hS2, h64, hT0, hz0⟩ := shE_zero hE
      have hT1 := hT.2
      have hB : Below w.heap.size w w2 := hb1.trans (hb2.mono hb1.size)
      obtain ⟨hl, hz, hm, hcells⟩ := hs.kept hB
      rw [hl]
      have hsum := sum_any (some ⟨g, 0, none⟩) len len (shares T zs) w2 (hI.seq (by rw [shares_len, hl]) hm (shares_amt T zs hT0 hT hS1 hz0))
      rw [sum_shares T zs hS1, ← (fit_yes T hT.1 hT.2).1, ← (fit_yes T hT.1 hT.2).2] at hsum
      have hbd : ∀ i, i < len → 0 ≤ share T (sumL zs) zs i ∧ share T (sumL zs) zs i ≤ T ∧ (zs.getD i 0 = 0 → share T (sumL zs) zs i = 0) := fun i hi => share_bd T zs hT0 hS1 hz0 i (by rw [hl]; exact hi)
      have hat : ∀ i, i < len → (shares T zs).getD i 0 = share T (sumL zs) zs i := fun i hi => shares_at T zs i (by rw [hl]; exact hi)
      have hsl : (shares T zs).length = len := by rw [shares_len, hl]
      replace hl := Lib.hid hl
      replace hz := Lib.hid hz
      replace hcells := Lib.hid hcells
      replace hbd := Lib.hid hbd
      replace hat := Lib.hid hat
      replace hsl := Lib.hid hsl
      replace hI := Lib.hid hI
      replace hz0 := Lib.hid hz0
      clear hs hc h64 hb1 hb2 hT hE hS1 hS2
      go_upto_region 10 with (first | (go_at_call 15; refine hsum.mono ?_; rintro e w3 ⟨rfl, hb3⟩))
      clear hsum
      go_loopw [34] (fun i wr => ∃ k : Nat, k ≤ len ∧ i = .int .i64 k ∧ Below w2.heap.size w2 wr) (fun i _ => len - (intOf i).toNat)
      case atStart => exact ⟨0, by omega, rfl, hb3⟩
      case round =>
        clear hb3
        obtain ⟨k, hk, rfl, hb3⟩ := hrel
        by_cases hlt : k < len
        · obtain ⟨b, off, rfl, hblt, hcc⟩ := hcells.out.resolve_left (by omega)
          have e1 : wr.cell? ⟨b, off + k, none⟩ = some (.int .i64 (zs.getD k 0)) := (hb3.cell (p := ⟨b, off + k, none⟩) hblt).trans (hcc k hlt)
          have e2 := (hI.out.kept hb3).cell (i := k) (by rw [hsl.out]; exact hlt)
          rw [hat.out k hlt] at e2
          obtain ⟨f0, f1, f2⟩ := hbd.out k hlt
          have hkz : (k : Int) < (len : Int) := by omega
          generalize zs.getD k 0 = z at *
          generalize share T (sumL zs) zs k = f at *
          replace hb3 := Lib.hid hb3
          replace hcc := Lib.hid hcc
          by_cases hzz : z = 0
          · subst hzz
            obtain rfl := f2 rfl
            clear f2
            go_wp2_with fail
            all_goals exact ⟨⟨k + 1, by omega, by go_num, hb3.out⟩, by simp [intOf]; omega⟩
          · clear f2
            go_wp2_with fail
            all_goals exact ⟨⟨k + 1, by omega, by go_num, hb3.out⟩, by simp [intOf]; omega⟩
        · have hkn : k = len := by omega
          subst hkn
          replace hb3 := Lib.hid hb3
          go_wp2_with fail
          go_ret
          exact ⟨rfl, hB.trans (hb3.out.mono hB.size)⟩

end Go.Proofs.Ytdbjfginigekbaa
