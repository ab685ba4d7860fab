/- What was made sure is there behind each crash: the law's walk. -/
import Derived.Test.YtgfemabicjbegaaG4
namespace Go.Proofs.Ytgfemabicjbegaa
open Go.RowKit
set_option linter.unusedVariables false

set_option maxHeartbeats 4000000 in
set_option maxRecDepth 100000 in
theorem diskSure_any (p : Option Addr) (len cap : Nat) (ops : Nat → DOp) (K : Nat → Int) (w : World) (hrow : OpRow w p len ops) (hK : ∀ i, K i ≤ 9223372036854775807) :
    Calls Try.prog 4 #[.slice p len cap, .agg #[.int .i64 (K 0), .int .i64 (K 1), .int .i64 (K 2), .int .i64 (K 3)]] w fun e w' => e = .returned (.bool true) ∧ Below w.heap.size w w' := by
  have hlen := hrow.2.1
  have hbox : Below w.heap.size w (w.alloc (.cells #[.int .i64 (K 0), .int .i64 (K 1), .int .i64 (K 2), .int .i64 (K 3)] 31)) := (Below.refl _ _).alloc (Nat.le_refl _) _
  replace hrow := hrow.kept hbox
  have hwb : w.heap.size < (w.alloc (.cells #[.int .i64 (K 0), .int .i64 (K 1), .int .i64 (K 2), .int .i64 (K 3)] 31)).heap.size := by rw [World.size_alloc]; omega
  have hkc : ∀ i, i < 4 → (w.alloc (.cells #[.int .i64 (K 0), .int .i64 (K 1), .int .i64 (K 2), .int .i64 (K 3)] 31)).cell? ⟨w.heap.size, i, none⟩ = some (.int .i64 (K i)) := fun i hi => by
    obtain rfl | rfl | rfl | rfl : i = 0 ∨ i = 1 ∨ i = 2 ∨ i = 3 := by omega
    all_goals exact cell_later2 rfl
  replace hrow := Lib.hid hrow
  replace hbox := Lib.hid hbox
  replace hkc := Lib.hid hkc
  replace hK := Lib.hid hK
  go_enter Try.func4, Try.ntmps4
  go_wp2_with fail
  generalize hv : w.alloc (.cells #[.int .i64 (K 0), .int .i64 (K 1), .int .i64 (K 2), .int .i64 (K 3)] 31) = v at *
  generalize hg0 : w.heap.size = kb at *
  replace hv := Lib.hid hv
  replace hg0 := Lib.hid hg0
  refine (awake_any _).mono ?_
  rintro e w0 ⟨rfl, hB⟩
  go_wp2_with fail
  refine (new_any (fun j => v.heap.size ≤ j) 1048576 _ (by omega) (fun j hj => Nat.le_trans hB.size hj)).mono ?_
  rintro e w1 ⟨d, rfl, hd, hD, hB1⟩
  have hB2 := hB.trans (hB1.mono hB.size)
  clear hB hB1 hd
  go_wp2_with fail
  refine (newR_any 1048576 _ (by omega)).mono ?_
  rintro e w2 ⟨rfl, _, rfl⟩
  have hL := lp_start hB2 hD (by omega)
  have hBr := hB2.size
  clear hB2 hD
  generalize w1.alloc (.cells (rArr (DM.new 1048576)) 40) = w2 at *
  generalize w1.heap.size = r at *
  generalize DM.new 1048576 = m0 at *
  replace hL := Lib.hid hL
  go_wp2_with fail
  go_loopw [9, 10] (fun s i wr => ∃ k n : Nat, k ≤ len ∧ k ≤ 40 ∧ n ≤ 4000 ∧ i = .int .i64 k ∧ s = .int .i64 n ∧ Hid (Lp v (fun j => v.heap.size ≤ j ∧ j ≠ r) wr d r (m0.run ops k))) (fun _ i _ => len - (intOf i).toNat)
  case atStart => exact ⟨0, 0, by omega, by omega, by omega, rfl, rfl, hL⟩
  case round =>
    obtain ⟨k, n, hk, hk40, hn, rfl, rfl, hR⟩ := hrel
    by_cases hgo : k < len ∧ k < 40
    · obtain ⟨hlt, h40⟩ := hgo
      have kz : (k : Int) < (len : Int) := by omega
      have kz40 : (k : Int) < 40 := by omega
      obtain ⟨b, off, rfl, hblt, hcell⟩ := hrow.out.2.2.resolve_left (by omega)
      have hc := hcell k hlt
      have hop := hrow.out.1 k
      have hcw : ∀ j, j < 9 → wr.cell? ⟨b, off + k * 9 + j, none⟩ = (ops k).arr[j]? := fun j hj => (hR.out.bel.cell (p := ⟨b, off + k * 9 + j, none⟩) hblt).trans (hc j hj)
      have c0 : wr.cell? ⟨b, off + k * 9, none⟩ = some (.int .i64 (ops k).Do) := hcw 0 (by omega)
      have c1 : wr.cell? ⟨b, off + k * 9 + 1, none⟩ = some (.int .i64 (ops k).File) := hcw 1 (by omega)
      have c2 : wr.cell? ⟨b, off + k * 9 + 2, none⟩ = some (.int .i64 (ops k).N) := hcw 2 (by omega)
      have c3 : wr.cell? ⟨b, off + k * 9 + 3, none⟩ = some (.int .i64 (ops k).To) := hcw 3 (by omega)
      have c4 : wr.cell? ⟨b, off + k * 9 + 4, none⟩ = some (.string (ops k).Bs) := hcw 4 (by omega)
      have c5 : wr.cell? ⟨b, off + k * 9 + 5, none⟩ = some (.int .i64 ((ops k).K 0)) := hcw 5 (by omega)
      have c6 : wr.cell? ⟨b, off + k * 9 + 6, none⟩ = some (.int .i64 ((ops k).K 1)) := hcw 6 (by omega)
      have c7 : wr.cell? ⟨b, off + k * 9 + 7, none⟩ = some (.int .i64 ((ops k).K 2)) := hcw 7 (by omega)
      have c8 : wr.cell? ⟨b, off + k * 9 + 8, none⟩ = some (.int .i64 ((ops k).K 3)) := hcw 8 (by omega)
      clear hc hcw hcell
      have hbs := hop.2
      have cO := doop_any _ d r _ (ops k) wr hR.out.two hop.1
      unfold DOp.arr at cO
      rw [show (m0.run ops k).step (ops k) = m0.run ops (k + 1) from rfl] at cO
      replace cO := Lib.hid cO
      replace hop := Lib.hid hop
      by_cases hsz : 4000 < n + (ops k).Bs.size
      · have hsz1 : (4000 : Int) < (n : Int) + ((ops k).Bs.size : Int) := by omega
        go_wp2_with fail
        go_ret
        exact ⟨rfl, by have h1 := hbox.out; rw [← hg0.out] at h1; exact h1.trans (hR.out.bel.mono (by have := hg0.out; omega))⟩
      · have hsz1 : ¬ (4000 : Int) < (n : Int) + ((ops k).Bs.size : Int) := by omega
        go_wp2_with fail
        with_reducible refine cO.out.mono ?_
        rintro e w3 ⟨rfl, hT, hK⟩
        have hL3 := hR.out.step rfl hBr hT hK
        clear hT hK
        replace hL3 := Lib.hid hL3
        clear c0 c1 c2 c3 c4 c5 c6 c7 c8
        go_wp2_with fail
        go_roundw
        case rel => exact ⟨k + 1, n + (ops k).Bs.size, by omega, by omega, by omega, by go_num, by go_num, hL3⟩
        case measure => simp [intOf]; omega
    · have hA := beh_start hR.out
      have ok := hR.out.two.ok
      have hkc' : ∀ i, i < 4 → (wr.alloc (.cells (wArr fun _ => []) 38)).cell? ⟨kb, i, none⟩ = some (.int .i64 (K i)) := fun i hi => (hA.bel.cell (p := ⟨kb, i, none⟩) hwb).trans (hkc.out i hi)
      have hb38 : ∀ w, (Instr.build 38 #[]).run Try.prog w = .ok (.agg #[.string ⟨#[]⟩, .string ⟨#[]⟩, .string ⟨#[]⟩, .string ⟨#[]⟩]) w := fun w => by kernel_rfl
      generalize m0.run ops k = m at *
      replace hA := Lib.hid hA
      replace ok := Lib.hid ok
      replace hkc' := Lib.hid hkc'
      have hgo' : ¬ (k : Int) < (len : Int) ∨ ((k : Int) < (len : Int) ∧ ¬ (k : Int) < 40) := by omega
      clear hR hL
      rcases hgo' with kz | ⟨kz, kz40⟩
      all_goals
        go_wp2_with fail
        change Code.wp _ _ _ _ (wr.alloc (.cells (wArr fun _ => []) 38))
        generalize wr.alloc (.cells (wArr fun _ => []) 38) = wa at *
        generalize hQ : (fun j => (v.heap.size ≤ j ∧ j ≠ r) ∧ j ≠ wr.heap.size) = Q at *
        generalize wr.heap.size = g at *
        replace hQ := Lib.hid hQ
        go_loopw [64] (fun i wr => ∃ (j : Nat) (f : Nat → List UInt8), j ≤ 4 ∧ i = .int .i64 j ∧ Hid (∀ i, i < j → f i = m.B i) ∧ Hid (Beh v Q wr d r g m m f)) (fun i _ => 4 - (intOf i).toNat)
        case atStart => exact ⟨0, fun _ => [], by omega, rfl, Lib.hid fun i hi => by omega, hA⟩
        case round =>
          obtain ⟨j, f, hj, rfl, hf, hB⟩ := hrel
          by_cases hj4 : j < 4
          · have jz : (j : Int) < 4 := by omega
            have cA := readD_any _ d _ (j : Int) _ hB.out.disk
            rw [isFile_of j hj4] at cA
            simp only [if_true, Int.toNat_natCast] at cA
            replace cA := Lib.hid cA
            have ct := hB.out.text hj4
            have cz := hB.out.free j
            have hN := hB.out.set hj4 (m.B j)
            have hfN : Hid (∀ i, i < j + 1 → upd f j (m.B j) i = m.B i) := Lib.hid fun i hi => by
              by_cases e : i = j
              · subst e; rw [upd_same]
              · rw [upd_other _ _ e]; exact hf.out i (by omega)
            unfold sv at cA ct hN
            replace hN := Lib.hid hN
            generalize (⟨(m.B j).toArray⟩ : ByteArray) = t at *
            go_wp2_with (first | (go_at_call 12; (with_reducible refine cA.out.mono ?_); rintro e w' ⟨rfl, rfl⟩))
            go_roundw
            case rel => exact ⟨j + 1, _, by omega, by go_num, hfN, hN⟩
            case measure => simp [intOf]; omega
          · obtain rfl : j = 4 := by omega
            have kc : ∀ i, i < 4 → wr.cell? ⟨kb, i, none⟩ = some (.int .i64 (K i)) := fun i hi => (hB.out.bel.cell (p := ⟨kb, i, none⟩) hwb).trans (hkc.out i hi)
            have kc0 := kc 0 (by omega)
            have kc1 := kc 1 (by omega)
            have kc2 := kc 2 (by omega)
            have kc3 := kc 3 (by omega)
            have hCr := crash_any Q d m K wr hB.out.disk ok.out hB.out.up hK.out
            replace hCr := Lib.hid hCr
            clear kc
            go_wp2_with fail
            with_reducible refine hCr.out.mono ?_
            rintro e w3 ⟨rfl, hD3, hK3⟩
            have hB3 := hB.out.call hD3 hK3
            clear hD3 hK3 kc0 kc1 kc2 kc3 hCr
            have hBm : Hid (∀ i, i < 4 → (m.crash (K 0) (K 1) (K 2) (K 3)).B i = (m.B i).take (m.left i (K i))) := Lib.hid fun i hi => crash_B m K i hi
            have hag : Hid (∀ i, i < 4 → ((m.crash (K 0) (K 1) (K 2) (K 3)).crash 0 0 0 0).B i = (m.crash (K 0) (K 1) (K 2) (K 3)).B i) := Lib.hid fun i hi => crash_again m ok.out K i hi
            have ok1 : Hid (m.crash (K 0) (K 1) (K 2) (K 3)).Ok := Lib.hid (ok.out.crash _ _ _ _)
            generalize m.crash (K 0) (K 1) (K 2) (K 3) = m1 at *
            replace hB3 := Lib.hid hB3
            go_wp2_with fail
            clear hB
            go_loopw [79] (fun i wr => ∃ (j : Nat) (f : Nat → List UInt8), j ≤ 4 ∧ i = .int .i64 j ∧ Hid (∀ i, i < j → f i = m1.B i) ∧ Hid (∀ i, j ≤ i → i < 4 → f i = m.B i) ∧ Hid (Beh v Q wr d r g m1 m f)) (fun i _ => 4 - (intOf i).toNat)
            case atStart => exact ⟨0, f, by omega, rfl, Lib.hid fun i hi => by omega, Lib.hid fun i _ hi => hf.out i hi, hB3⟩
            case round =>
              clear hf hB3
              obtain ⟨j, f, hj, rfl, hf, hf2, hB⟩ := hrel
              by_cases hj4 : j < 4
              · have jz : (j : Int) < 4 := by omega
                have cA := readD_any _ d _ (j : Int) _ hB.out.disk
                rw [isFile_of j hj4] at cA
                simp only [if_true, Int.toNat_natCast] at cA
                have ct := hB.out.text hj4
                have cz := hB.out.free j
                rw [hf2.out j (Nat.le_refl _) hj4] at ct
                have cS := hB.out.ref.sure hj4
                have hN := hB.out.set hj4 (m1.B j)
                have hfN : Hid (∀ i, i < j + 1 → upd f j (m1.B j) i = m1.B i) := Lib.hid fun i hi => by
                  by_cases e : i = j
                  · subst e; rw [upd_same]
                  · rw [upd_other _ _ e]; exact hf.out i (by omega)
                have hfM : Hid (∀ i, j + 1 ≤ i → i < 4 → upd f j (m1.B j) i = m.B i) := Lib.hid fun i h1 hi => by
                  rw [upd_other _ _ (by omega)]; exact hf2.out i (by omega) hi
                have hll := m.left_le ok.out hj4 (K j)
                have hlg := m.left_ge j (K j)
                have hbj := hBm.out j hj4
                have s1 : (⟨(m1.B j).toArray⟩ : ByteArray).size = m.left j (K j) := by rw [sv_size, hbj, List.length_take]; omega
                have s2 : (⟨(m.B j).toArray⟩ : ByteArray).size = (m.B j).length := sv_size _
                have s3 : (⟨(m.B j).toArray⟩ : ByteArray).extract 0 (⟨(m1.B j).toArray⟩ : ByteArray).size = ⟨(m1.B j).toArray⟩ := by
                  rw [s1, hbj]
                  have h := sv_take (m.B j) (m.left j (K j))
                  unfold sv at h
                  injection h
                unfold sv at cA ct hN
                replace cA := Lib.hid cA
                replace hN := Lib.hid hN
                replace hbj := Lib.hid hbj
                generalize m.left j (K j) = c at *
                generalize (⟨(m1.B j).toArray⟩ : ByteArray) = s at *
                generalize (⟨(m.B j).toArray⟩ : ByteArray) = t at *
                generalize m.S j = S at *
                have n1 : ¬ (t.size : Int) < (s.size : Int) := by omega
                have n2 : ¬ (s.size : Int) < (S : Int) := by omega
                have n3 : (s.size : Int) ≤ (t.size : Int) := by omega
                replace s1 := Lib.hid s1
                replace s2 := Lib.hid s2
                go_wp2_with (first | (go_at_call 12; (with_reducible refine cA.out.mono ?_); rintro e w' ⟨rfl, rfl⟩))
                go_roundw
                case rel => exact ⟨j + 1, _, by omega, by go_num, hfN, hfM, hN⟩
                case measure => simp [intOf]; omega
              · obtain rfl : j = 4 := by omega
                have hb31 : ∀ w, (Instr.build 31 #[]).run Try.prog w = .ok (.agg #[.int .i64 0, .int .i64 0, .int .i64 0, .int .i64 0]) w := fun w => by kernel_rfl
                have hCr := crash_any Q d m1 (fun _ => 0) wr hB.out.disk ok1.out hB.out.up (fun _ => by omega)
                replace hCr := Lib.hid hCr
                go_wp2_with fail
                with_reducible refine hCr.out.mono ?_
                rintro e w4 ⟨rfl, hD3, hK3⟩
                have hB4 := hB.out.call hD3 hK3
                clear hD3 hK3 hCr
                have hpw : Hid ((m1.crash 0 0 0 0).pow = true) := Lib.hid (crash_pow _ _ _ _ _)
                have ok2 : Hid (m1.crash 0 0 0 0).Ok := Lib.hid (ok1.out.crash _ _ _ _)
                generalize m1.crash 0 0 0 0 = m2 at *
                replace hB4 := Lib.hid hB4
                clear hf2 hBm hB
                go_wp2_with fail
                go_loop [123] (fun i => ∃ (j : Nat), j ≤ 4 ∧ i = .int .i64 j) (fun i => 4 - (intOf i).toNat)
                case atStart => exact ⟨0, by omega, rfl⟩
                case round =>
                  obtain ⟨j, hj, rfl⟩ := hrel
                  by_cases hj4 : j < 4
                  · have jz : (j : Int) < 4 := by omega
                    have cA := readD_any _ d _ (j : Int) _ hB4.out.disk
                    rw [isFile_of j hj4] at cA
                    simp only [if_true, Int.toNat_natCast] at cA
                    have ct := hB4.out.text hj4
                    rw [hf.out j hj4] at ct
                    rw [hag.out j hj4] at cA
                    unfold sv at cA ct
                    replace cA := Lib.hid cA
                    generalize (⟨(m1.B j).toArray⟩ : ByteArray) = s at *
                    go_wp2_with (first | (go_at_call 12; (with_reducible refine cA.out.mono ?_); rintro e w' ⟨rfl, rfl⟩))
                    go_round
                    case rel => exact ⟨j + 1, by omega, by go_num⟩
                    case measure => simp [intOf]; omega
                  · obtain rfl : j = 4 := by omega
                    have cF := app_any Q d m2 0 ⟨#[]⟩ w4 hB4.out.disk ok2.out hB4.out.up
                    rw [show (m2.app 0 (bl ⟨#[]⟩)).1 = 0 from app_nothing m2 hpw.out] at cF
                    replace cF := Lib.hid cF
                    go_wp2_with (first | (go_at_call 14; (with_reducible refine cF.out.mono ?_); rintro e w5 ⟨rfl, hD5, hK5⟩))
                    go_ret
                    have h1 := hbox.out
                    rw [← hg0.out] at h1
                    exact ⟨rfl, h1.trans ((hB4.out.call hD5 hK5).bel.mono (by have := hg0.out; omega))⟩
end Go.Proofs.Ytgfemabicjbegaa
