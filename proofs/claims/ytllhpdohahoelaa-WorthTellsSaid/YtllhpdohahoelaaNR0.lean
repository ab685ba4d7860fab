/- The contracts of the reference's Net and Short. -/
import Derived.Test.YtllhpdohahoelaaNP
import Derived.Test.YtllhpdohahoelaaTW2
import Derived.Test.YtllhpdohahoelaaR8
import Derived.Test.YtllhpdohahoelaaLG8
namespace Go.Proofs.Ytllhpdohahoelaa
open Go.RowKit
set_option linter.unusedVariables false

theorem seq1 (w : World) (x : Int) (hx : Amt x) : Seq64 (w.alloc (.cells #[.int .i64 x] 2)) (some ⟨w.heap.size, 0, none⟩) 1 [x] := by
  refine ⟨rfl, amt_getD _ (by simp; exact hx), by decide, .inr ⟨w.heap.size, 0, rfl, by simp, fun i hi => ?_⟩⟩
  obtain rfl : i = 0 := by omega
  go_simp <;> rfl
theorem chain1_any (x y : Int) (w : World) (hx : In64 x) (hy : In64 y) :
    Calls Try.prog 46 #[.int .i64 x, .slice (some ⟨w.heap.size, 0, none⟩) 1 1] (w.alloc (.cells #[.int .i64 y] 2)) fun e w' => e = .returned (.tuple #[.int .i64 (chainL x [y]).1, .int .i64 (chainL x [y]).2]) ∧ Below w.heap.size w w' :=
  (chainR_any x _ 1 1 [y] _ hx (seq1 w y hy) (by omega)).mono fun e w' ⟨h1, h2⟩ => ⟨h1, ((Below.refl _ _).alloc (Nat.le_refl _) _).trans (h2.mono (by simp))⟩

set_option maxRecDepth 100000 in
set_option maxHeartbeats 4000000 in
theorem netR_any (p : Option Addr) (len cap : Nat) (cs : List Cur) (g cb : Nat) (b : Nat → Int) (w : World) (hT : Tab w p len cs) (hl : len ≤ 1000) (ho : ∀ i, i < len → oobB (cAt cs i) = false) (hb : IR w g b len) (hin : ∀ i, In64 (b i)) :
    Calls Try.prog 22 #[.slice p len cap, .slice (some ⟨g, 0, none⟩) len cb] w fun e w' => e = .returned (.tuple #[.int .i64 (netF cs b len 0 0).1, .int .i64 (netF cs b len 0 0).2]) ∧ Below w.heap.size w w' := by
  obtain ⟨N, hN⟩ : ∃ N, netF cs b len 0 0 = N := ⟨_, rfl⟩
  rw [hN]
  replace hN := Lib.hid hN
  replace hT := Lib.hid hT
  replace ho := Lib.hid ho
  replace hb := Lib.hid hb
  replace hin := Lib.hid hin
  go_enter Try.func22, Try.ntmps22
  go_wp2_with fail
  go_loopw [6, 7] (fun s i wr => ∃ (k : Nat) (x : Int), k ≤ len ∧ i = .int .i64 k ∧ s = .int .i64 x ∧ In64 x ∧ netF cs b (len - k) k x = N ∧ Below w.heap.size w wr) (fun _ i _ => len - (intOf i).toNat)
  case atStart => exact ⟨0, 0, by omega, rfl, rfl, ⟨by decide, by decide⟩, hN.out, Below.refl _ _⟩
  case round =>
    obtain ⟨k, x, hk, rfl, rfl, hx, hch, hB⟩ := hrel
    replace hch := Lib.hid hch
    replace hx := Lib.hid hx
    by_cases hlt : k < len
    · have hcell : wr.cell? ⟨g, k, none⟩ = some (.int .i64 (b k)) := (hB.cell (p := ⟨g, k, none⟩) hb.out.lt).trans (hb.out.cell hlt)
      have hW := Lib.hid (worthR_any p len cap cs k (b k) wr (hT.out.kept hB) hlt (hin.out k) (ho.out k hlt))
      obtain ⟨n, hn⟩ : ∃ n, len - k = n + 1 := ⟨len - k - 1, by omega⟩
      have hch2 := hch.out
      rw [hn, netF] at hch2
      obtain ⟨y, hy⟩ : ∃ y, worthT (cAt cs k) (b k) = y := ⟨_, rfl⟩
      rw [hy] at hch2 hW
      replace hn := Lib.hid hn
      have hB2 := Lib.hid hB
      have hki : (k : Int) < (len : Int) := by omega
      have hk0 : (0 : Int) ≤ (k : Int) := by omega
      clear hB hy
      by_cases hy1 : In64 y
      · rw [(fit_in hy1).1, (fit_in hy1).2] at hW
        by_cases hy2 : In64 (x + y)
        · rw [if_pos ⟨hy1, hy2⟩] at hch2
          replace hch2 := Lib.hid hch2
          replace hy1 := Lib.hid hy1
          replace hy2 := Lib.hid hy2
          go_wp2_with (first | (go_at_call 45; (with_reducible refine hW.out.mono ?_); rintro e w1 ⟨rfl, hb1⟩; replace hb1 := Lib.hid hb1) | (go_at_call 46; (with_reducible refine (chain1_any x y _ hx.out hy1.out).mono ?_); rintro e w2 ⟨rfl, hb2⟩; replace hb2 := Lib.hid hb2; rw [chain1_yes hy2.out]))
          go_roundw
          case rel => exact ⟨k + 1, x + y, by omega, by go_num, rfl, hy2.out, by rw [show len - (k + 1) = n from by have := hn.out; omega]; exact hch2.out, chain_trans (chain_trans hB2.out hb1.out) hb2.out⟩
          case measure => simp [intOf]; omega
        · rw [if_neg (fun h => hy2 h.2)] at hch2
          replace hch2 := Lib.hid hch2
          replace hy1 := Lib.hid hy1
          replace hy2 := Lib.hid hy2
          go_wp2_with (first | (go_at_call 45; (with_reducible refine hW.out.mono ?_); rintro e w1 ⟨rfl, hb1⟩; replace hb1 := Lib.hid hb1) | (go_at_call 46; (with_reducible refine (chain1_any x y _ hx.out hy1.out).mono ?_); rintro e w2 ⟨rfl, hb2⟩; replace hb2 := Lib.hid hb2; rw [chain1_no hy2.out]))
          go_ret2
          exact ⟨by rw [← hch2.out] <;> rfl, chain_trans (chain_trans hB2.out hb1.out) hb2.out⟩
      · rw [(fit_out hy1).1, (fit_out hy1).2] at hW
        rw [if_neg (fun h => hy1 h.1)] at hch2
        replace hch2 := Lib.hid hch2
        replace hy1 := Lib.hid hy1
        go_wp2_with (first | (go_at_call 45; (with_reducible refine hW.out.mono ?_); rintro e w1 ⟨rfl, hb1⟩; replace hb1 := Lib.hid hb1))
        go_ret2
        exact ⟨by rw [← hch2.out] <;> rfl, chain_trans hB2.out hb1.out⟩
    · replace hB := Lib.hid hB
      go_wp2_with fail
      go_ret2
      refine ⟨?_, hB.out⟩
      rw [← hch.out, show len - k = 0 from by omega, netF]
      rfl

theorem fitR_in {x : Int} (h : In64 x) : fitRV x = x ∧ fitRE x = 0 := by unfold In64 at h; unfold fitRV fitRE; rw [if_pos h, if_pos h]; exact ⟨rfl, rfl⟩
theorem fitR_out {x : Int} (h : ¬ In64 x) : fitRV x = 0 ∧ fitRE x = 3 := by unfold In64 at h; unfold fitRV fitRE; rw [if_neg h, if_neg h]; exact ⟨rfl, rfl⟩

set_option maxRecDepth 100000 in
set_option maxHeartbeats 4000000 in
theorem shortR_any (p : Option Addr) (len cap : Nat) (cs : List Cur) (g cb : Nat) (b : Nat → Int) (w : World) (hT : Tab w p len cs) (hl : len ≤ 1000) (ho : ∀ i, i < len → oobB (cAt cs i) = false) (hb : IR w g b len) (hin : ∀ i, In64 (b i)) :
    Calls Try.prog 23 #[.slice p len cap, .slice (some ⟨g, 0, none⟩) len cb] w fun e w' => e = .returned (.tuple #[.int .i64 (shortF cs b len 0 0).1, .int .i64 (shortF cs b len 0 0).2]) ∧ Below w.heap.size w w' := by
  obtain ⟨N, hN⟩ : ∃ N, shortF cs b len 0 0 = N := ⟨_, rfl⟩
  rw [hN]
  replace hN := Lib.hid hN
  replace hT := Lib.hid hT
  replace ho := Lib.hid ho
  replace hb := Lib.hid hb
  replace hin := Lib.hid hin
  go_enter Try.func23, Try.ntmps23
  go_wp2_with fail
  go_loopw [6, 7] (fun s i wr => ∃ (k : Nat) (x : Int), k ≤ len ∧ i = .int .i64 k ∧ s = .int .i64 x ∧ In64 x ∧ shortF cs b (len - k) k x = N ∧ Below w.heap.size w wr) (fun _ i _ => len - (intOf i).toNat)
  case atStart => exact ⟨0, 0, by omega, rfl, rfl, ⟨by decide, by decide⟩, hN.out, Below.refl _ _⟩
  case round =>
    obtain ⟨k, x, hk, rfl, rfl, hx, hch, hB⟩ := hrel
    replace hch := Lib.hid hch
    replace hx := Lib.hid hx
    by_cases hlt : k < len
    · have hcell : wr.cell? ⟨g, k, none⟩ = some (.int .i64 (b k)) := (hB.cell (p := ⟨g, k, none⟩) hb.out.lt).trans (hb.out.cell hlt)
      have hW := Lib.hid (plainR_any p len cap cs k (b k) wr (hT.out.kept hB) hlt (hin.out k) (ho.out k hlt))
      obtain ⟨n, hn⟩ : ∃ n, len - k = n + 1 := ⟨len - k - 1, by omega⟩
      have hch2 := hch.out
      rw [hn, shortF] at hch2
      obtain ⟨y, hy⟩ : ∃ y, plainT (cAt cs k) (b k) = y := ⟨_, rfl⟩
      rw [hy] at hch2 hW
      replace hn := Lib.hid hn
      have hB2 := Lib.hid hB
      have hki : (k : Int) < (len : Int) := by omega
      have hk0 : (0 : Int) ≤ (k : Int) := by omega
      clear hB hy
      by_cases h0 : 0 ≤ b k
      · rw [if_pos h0] at hch2
        replace hch2 := Lib.hid hch2
        go_wp2_with fail
        go_roundw
        case rel => exact ⟨k + 1, x, by omega, by go_num, rfl, hx.out, by rw [show len - (k + 1) = n from by have := hn.out; omega]; exact hch2.out, hB2.out⟩
        case measure => simp [intOf]; omega
      rw [if_neg h0] at hch2
      by_cases hy1 : In64 y
      · rw [(fit_in hy1).1, (fit_in hy1).2] at hW
        obtain ⟨y0, y1⟩ := hy1
        replace hy1 : Hid (In64 y) := Lib.hid ⟨y0, y1⟩
        replace y0 := Lib.hid y0
        replace y1 := Lib.hid y1
        by_cases hy2 : In64 (-y)
        · by_cases hy3 : In64 (x + -y)
          · rw [if_pos ⟨hy1.out, hy2, hy3⟩] at hch2
            replace hch2 := Lib.hid hch2
            replace hy2 := Lib.hid hy2
            replace hy3 := Lib.hid hy3
            go_wp2_with (first
              | (go_at_call 47; (with_reducible refine hW.out.mono ?_); rintro e w1 ⟨rfl, hb1⟩; replace hb1 := Lib.hid hb1)
              | (go_at_call 38; (with_reducible refine (of_any y _ y0.out y1.out).mono ?_); rintro e w2 ⟨v2, rfl, hv2, hb2⟩; replace hb2 := Lib.hid hb2; replace hv2 := Lib.hid hv2)
              | (go_at_call 48; (with_reducible refine (turned_any v2 5 y _ hv2.out (by omega)).mono ?_); rintro e w3 ⟨v3, rfl, hv3, hb3⟩; replace hb3 := Lib.hid hb3; replace hv3 := Lib.hid hv3)
              | (go_at_call 36; (with_reducible refine (fit_any v3 5 (-y) _ hv3.out (by omega)).mono ?_); rintro e w4 ⟨rfl, hb4⟩; replace hb4 := Lib.hid hb4; rw [(fitR_in hy2.out).1, (fitR_in hy2.out).2])
              | (go_at_call 46; (with_reducible refine (chain1_any x (-y) _ hx.out hy2.out).mono ?_); rintro e w5 ⟨rfl, hb5⟩; replace hb5 := Lib.hid hb5; rw [chain1_yes hy3.out]))
            go_roundw
            case rel => exact ⟨k + 1, x + -y, by omega, by go_num, rfl, hy3.out, by rw [show len - (k + 1) = n from by have := hn.out; omega]; exact hch2.out, chain_trans (chain_trans (chain_trans (chain_trans (chain_trans hB2.out hb1.out) hb2.out) hb3.out) hb4.out) hb5.out⟩
            case measure => simp [intOf]; omega
          · rw [if_neg (fun h => hy3 h.2.2)] at hch2
            replace hch2 := Lib.hid hch2
            replace hy2 := Lib.hid hy2
            replace hy3 := Lib.hid hy3
            go_wp2_with (first
              | (go_at_call 47; (with_reducible refine hW.out.mono ?_); rintro e w1 ⟨rfl, hb1⟩; replace hb1 := Lib.hid hb1)
              | (go_at_call 38; (with_reducible refine (of_any y _ y0.out y1.out).mono ?_); rintro e w2 ⟨v2, rfl, hv2, hb2⟩; replace hb2 := Lib.hid hb2; replace hv2 := Lib.hid hv2)
              | (go_at_call 48; (with_reducible refine (turned_any v2 5 y _ hv2.out (by omega)).mono ?_); rintro e w3 ⟨v3, rfl, hv3, hb3⟩; replace hb3 := Lib.hid hb3; replace hv3 := Lib.hid hv3)
              | (go_at_call 36; (with_reducible refine (fit_any v3 5 (-y) _ hv3.out (by omega)).mono ?_); rintro e w4 ⟨rfl, hb4⟩; replace hb4 := Lib.hid hb4; rw [(fitR_in hy2.out).1, (fitR_in hy2.out).2])
              | (go_at_call 46; (with_reducible refine (chain1_any x (-y) _ hx.out hy2.out).mono ?_); rintro e w5 ⟨rfl, hb5⟩; replace hb5 := Lib.hid hb5; rw [chain1_no hy3.out]))
            go_ret2
            exact ⟨by rw [← hch2.out] <;> rfl, chain_trans (chain_trans (chain_trans (chain_trans (chain_trans hB2.out hb1.out) hb2.out) hb3.out) hb4.out) hb5.out⟩
        · rw [if_neg (fun h => hy2 h.2.1)] at hch2
          replace hch2 := Lib.hid hch2
          replace hy2 := Lib.hid hy2
          go_wp2_with (first
              | (go_at_call 47; (with_reducible refine hW.out.mono ?_); rintro e w1 ⟨rfl, hb1⟩; replace hb1 := Lib.hid hb1)
              | (go_at_call 38; (with_reducible refine (of_any y _ y0.out y1.out).mono ?_); rintro e w2 ⟨v2, rfl, hv2, hb2⟩; replace hb2 := Lib.hid hb2; replace hv2 := Lib.hid hv2)
              | (go_at_call 48; (with_reducible refine (turned_any v2 5 y _ hv2.out (by omega)).mono ?_); rintro e w3 ⟨v3, rfl, hv3, hb3⟩; replace hb3 := Lib.hid hb3; replace hv3 := Lib.hid hv3)
              | (go_at_call 36; (with_reducible refine (fit_any v3 5 (-y) _ hv3.out (by omega)).mono ?_); rintro e w4 ⟨rfl, hb4⟩; replace hb4 := Lib.hid hb4; rw [(fitR_out hy2.out).1, (fitR_out hy2.out).2]))
          go_ret2
          exact ⟨by rw [← hch2.out] <;> rfl, chain_trans (chain_trans (chain_trans (chain_trans hB2.out hb1.out) hb2.out) hb3.out) hb4.out⟩
      · rw [(fit_out hy1).1, (fit_out hy1).2] at hW
        rw [if_neg (fun h => hy1 h.1)] at hch2
        replace hch2 := Lib.hid hch2
        replace hy1 := Lib.hid hy1
        go_wp2_with (first | (go_at_call 47; (with_reducible refine hW.out.mono ?_); rintro e w1 ⟨rfl, hb1⟩; replace hb1 := Lib.hid hb1))
        go_ret2
        exact ⟨by rw [← hch2.out] <;> rfl, chain_trans hB2.out hb1.out⟩
    · replace hB := Lib.hid hB
      go_wp2_with fail
      go_ret2
      refine ⟨?_, hB.out⟩
      rw [← hch.out, show len - k = 0 from by omega, shortF]
      rfl
end Go.Proofs.Ytllhpdohahoelaa
