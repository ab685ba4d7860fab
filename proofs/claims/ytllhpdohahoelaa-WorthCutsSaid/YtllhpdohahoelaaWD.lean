/- The contract of worth's by. -/
import Derived.Test.YtllhpdohahoelaaWC
namespace Go.Proofs.Ytllhpdohahoelaa
open Go.RowKit
set_option linter.unusedVariables false

set_option maxHeartbeats 4000000 in
set_option maxRecDepth 100000 in
theorem by_any (f : Nat → Int) (p : Option Addr) (len cap : Nat) (cs : List Cur) (w : World) (hT : Tab w p len cs) (hl : len ≤ 8) (ho : ∀ i, i < len → oobB (cAt cs i) = false) (hin : ∀ i, In64 (f i)) :
    Calls Try.prog 43 #[.agg (r8 f), .slice p len cap] w fun e w' => e = .returned (.agg (s12 f (netF cs f len 0 0) (shortF cs f len 0 0))) ∧ Below w.heap.size w w' := by
  obtain ⟨NV, hN⟩ : ∃ N, netF cs f len 0 0 = N := ⟨_, rfl⟩
  obtain ⟨SV, hS⟩ : ∃ N, shortF cs f len 0 0 = N := ⟨_, rfl⟩
  rw [hN, hS]
  obtain ⟨R, hR⟩ : ∃ R, s12 f NV SV = R := ⟨_, rfl⟩
  rw [hR]
  have hx0 : BX8 ((w.alloc (.cells (r8 f) 89)).alloc (.cells (s12 (fun _ => 0) (0, 0) (0, 0)) 93)) w.heap.size f := heap_alloc2_old w _ _
  have hr0 : B12 ((w.alloc (.cells (r8 f) 89)).alloc (.cells (s12 (fun _ => 0) (0, 0) (0, 0)) 93)) (w.heap.size + 1) (fun _ => 0) (0, 0) (0, 0) := heap_alloc2_new w _ _
  have hB0 : Below w.heap.size w ((w.alloc (.cells (r8 f) 89)).alloc (.cells (s12 (fun _ => 0) (0, 0) (0, 0)) 93)) := ((Below.refl _ w).alloc (Nat.le_refl _) _).alloc (by simp) _
  have hs0 : ((w.alloc (.cells (r8 f) 89)).alloc (.cells (s12 (fun _ => 0) (0, 0) (0, 0)) 93)).heap.size = w.heap.size + 2 := by simp
  generalize hv : (w.alloc (.cells (r8 f) 89)).alloc (.cells (s12 (fun _ => 0) (0, 0) (0, 0)) 93) = v at *
  have x0 : v.cell? ⟨w.heap.size, 0, none⟩ = some (.int .i64 (f 0)) := obj_cell hx0 rfl
  have x1 : v.cell? ⟨w.heap.size, 1, none⟩ = some (.int .i64 (f 1)) := obj_cell hx0 rfl
  have x2 : v.cell? ⟨w.heap.size, 2, none⟩ = some (.int .i64 (f 2)) := obj_cell hx0 rfl
  have x3 : v.cell? ⟨w.heap.size, 3, none⟩ = some (.int .i64 (f 3)) := obj_cell hx0 rfl
  have x4 : v.cell? ⟨w.heap.size, 4, none⟩ = some (.int .i64 (f 4)) := obj_cell hx0 rfl
  have x5 : v.cell? ⟨w.heap.size, 5, none⟩ = some (.int .i64 (f 5)) := obj_cell hx0 rfl
  have x6 : v.cell? ⟨w.heap.size, 6, none⟩ = some (.int .i64 (f 6)) := obj_cell hx0 rfl
  have x7 : v.cell? ⟨w.heap.size, 7, none⟩ = some (.int .i64 (f 7)) := obj_cell hx0 rfl
  have hb2 : B12 (v.alloc (.cells (s12 f (0, 0) (0, 0)) 93)) (w.heap.size + 2) f (0, 0) (0, 0) := by rw [← hs0]; exact heap_alloc_new v _
  have hB2 : Below v.heap.size v (v.alloc (.cells (s12 f (0, 0) (0, 0)) 93)) := (Below.refl _ v).alloc (Nat.le_refl _) _
  generalize hu : v.alloc (.cells (s12 f (0, 0) (0, 0)) 93) = u at *
  have hTv := hT.kept hB0
  unfold s12 r8 at hv
  unfold s12 at hu
  unfold r8
  replace hT := Lib.hid hT
  replace hTv := Lib.hid hTv
  replace ho := Lib.hid ho
  replace hin := Lib.hid hin
  replace hv := Lib.hid hv
  replace hu := Lib.hid hu
  replace hN := Lib.hid hN
  replace hS := Lib.hid hS
  replace hR := Lib.hid hR
  replace hx0 := Lib.hid hx0
  replace hr0 := Lib.hid hr0
  replace hb2 := Lib.hid hb2
  replace hB0 := Lib.hid hB0
  replace hB2 := Lib.hid hB2
  go_enter Try.func43, Try.ntmps43
  go_upto_region 1 with (fail)
  rw [hv.out]
  go_upto_region 2 with (fail)
  change Code.wp _ _ _ _ (v.alloc (.cells #[.int .i64 (f 0), .int .i64 (f 1), .int .i64 (f 2), .int .i64 (f 3), .int .i64 (f 4), .int .i64 (f 5), .int .i64 (f 6), .int .i64 (f 7), .int .i64 0, .int .i64 0, .int .i64 0, .int .i64 0] 93))
  rw [hu.out]
  clear x0 x1 x2 x3 x4 x5 x6 x7
  go_cut [] from 8 to 15 (fun wc => Hid (B12 wc (w.heap.size + 2) f NV SV) ∧ Hid (Below v.heap.size v wc))
  case first =>
    rename_i J1 K1 hJ1 hK1
    refine wp_region_closed (by kernel_rfl) (fun L az wz => ∃ v8 v9 v10 v11 v12 v13 v14 v15 : Value, az = ({ tmps := (Value.agg #[.int .i64 (f 0), .int .i64 (f 1), .int .i64 (f 2), .int .i64 (f 3), .int .i64 (f 4), .int .i64 (f 5), .int .i64 (f 6), .int .i64 (f 7)] :: Value.slice p len cap :: .pointer (some ⟨w.heap.size, 0, none⟩) :: undef :: .pointer (some ⟨w.heap.size + 1, 0, none⟩) :: .pointer (some ⟨w.heap.size + 2, 0, none⟩) :: Value.agg #[.int .i64 (f 0), .int .i64 (f 1), .int .i64 (f 2), .int .i64 (f 3), .int .i64 (f 4), .int .i64 (f 5), .int .i64 (f 6), .int .i64 (f 7)] :: Value.agg #[.int .i64 (f 0), .int .i64 (f 1), .int .i64 (f 2), .int .i64 (f 3), .int .i64 (f 4), .int .i64 (f 5), .int .i64 (f 6), .int .i64 (f 7), .int .i64 0, .int .i64 0, .int .i64 0, .int .i64 0] :: v8 :: v9 :: v10 :: v11 :: v12 :: v13 :: v14 :: v15 :: undef :: []).toArray, defers := [] } : Act) ∧ (∃ a b : Int × Int, B12 wz (w.heap.size + 2) f a b ∧ (L 7 = true → a = NV) ∧ (L 9 = true → b = SV)) ∧ (Below v.heap.size v wz) ∧ (L 0 = true → ∃ a b : Int × Int, v8 = .agg (s12 f a b)) ∧ (L 1 = true → v9 = Value.slice p len cap) ∧ (L 2 = true → v10 = .agg #[.int .i64 NV.1, .int .i64 NV.2]) ∧ (L 3 = true → ∃ a b : Int × Int, v11 = .agg (s12 f a b)) ∧ (L 4 = true → v12 = Value.slice p len cap) ∧ (L 5 = true → v13 = .agg #[.int .i64 SV.1, .int .i64 SV.2]) ∧ (L 6 = true → v14 = .pointer (some ⟨w.heap.size + 2, 8, none⟩)) ∧ (L 8 = true → v15 = .pointer (some ⟨w.heap.size + 2, 10, none⟩))) (by kernel_rfl) ?_ ?_ ?_
    · exact ⟨_, _, _, _, _, _, _, _, rfl, ⟨_, _, hb2.out, nofun, nofun⟩, hB2.out.drew, nofun, nofun, nofun, nofun, nofun, nofun, nofun, nofun⟩
    · intro L az wz i hi hni hI hdep hcl
      obtain ⟨v8, v9, v10, v11, v12, v13, v14, v15, rfl, hX, hB, h0, h1, h2, h3, h4, h5, h6, h8⟩ := hI
      have hcase : i = 0 ∨ i = 1 ∨ i = 2 ∨ i = 3 ∨ i = 4 ∨ i = 5 ∨ i = 6 ∨ i = 7 ∨ i = 8 ∨ i = 9 := by
        have hi2 : i < 10 := hi
        omega
      rcases hcase with rfl | rfl | rfl | rfl | rfl | rfl | rfl | rfl | rfl | rfl
      · -- 0
        obtain ⟨a, b, hx, h7, h9⟩ := hX
        obtain ⟨y0, y1, y2, y3, y4, y5, y6, y7, y8, y9, y10, y11⟩ := hx.cells
        have hx2 := Lib.hid hx
        refine wpOp_step rfl fun K hK => ?_
        go_simp
        exact hK _ _ ⟨_, _, _, _, _, _, _, _, rfl, ⟨a, b, hx, fun e => h7 (add_ne e (by decide)), fun e => h9 (add_ne e (by decide))⟩, hB, fun _ => ⟨a, b, rfl⟩, fun e => h1 (add_ne e (by decide)), fun e => h2 (add_ne e (by decide)), fun e => h3 (add_ne e (by decide)), fun e => h4 (add_ne e (by decide)), fun e => h5 (add_ne e (by decide)), fun e => h6 (add_ne e (by decide)), fun e => h8 (add_ne e (by decide))⟩
      · -- 1
        obtain ⟨a, b, hx, h7, h9⟩ := hX
        refine wpOp_step rfl fun K hK => ?_
        go_simp
        exact hK _ _ ⟨_, _, _, _, _, _, _, _, rfl, ⟨a, b, hx, fun e => h7 (add_ne e (by decide)), fun e => h9 (add_ne e (by decide))⟩, hB, fun e => h0 (add_ne e (by decide)), fun _ => rfl, fun e => h2 (add_ne e (by decide)), fun e => h3 (add_ne e (by decide)), fun e => h4 (add_ne e (by decide)), fun e => h5 (add_ne e (by decide)), fun e => h6 (add_ne e (by decide)), fun e => h8 (add_ne e (by decide))⟩
      · -- 2
        obtain ⟨a, b, hx, h7, h9⟩ := hX
        obtain ⟨a2, b2, e0⟩ := h0 (hdep 0 (by decide +kernel))
        subst e0
        have e1 := h1 (hdep 1 (by decide +kernel))
        subst e1
        have hc := netBy_any f a2 b2 p len cap cs wz (hTv.out.kept hB) hl ho.out hin.out
        rw [hN.out] at hc
        unfold s12 at hc
        unfold s12
        replace hc := Lib.hid hc
        refine wpOp_step rfl fun K hK => ?_
        go_simp
        go_at_call 68
        refine (hc.out).mono ?_
        rintro e w1 ⟨rfl, hb1⟩
        have hx2 : B12 w1 (w.heap.size + 2) f a b := (hb1.block _ (obj_lt hx)).trans hx
        have hB2 := hB.trans (hb1.mono hB.size)
        replace hx2 := Lib.hid hx2
        go_simp
        exact hK _ _ ⟨_, _, _, _, _, _, _, _, rfl, ⟨a, b, hx2.out, fun e => h7 (add_ne e (by decide)), fun e => h9 (add_ne e (by decide))⟩, hB2, fun e => h0 (add_ne e (by decide)), fun e => h1 (add_ne e (by decide)), fun _ => rfl, fun e => h3 (add_ne e (by decide)), fun e => h4 (add_ne e (by decide)), fun e => h5 (add_ne e (by decide)), fun e => h6 (add_ne e (by decide)), fun e => h8 (add_ne e (by decide))⟩
      · -- 3
        obtain ⟨a, b, hx, h7, h9⟩ := hX
        obtain ⟨y0, y1, y2, y3, y4, y5, y6, y7, y8, y9, y10, y11⟩ := hx.cells
        have hx2 := Lib.hid hx
        refine wpOp_step rfl fun K hK => ?_
        go_simp
        exact hK _ _ ⟨_, _, _, _, _, _, _, _, rfl, ⟨a, b, hx, fun e => h7 (add_ne e (by decide)), fun e => h9 (add_ne e (by decide))⟩, hB, fun e => h0 (add_ne e (by decide)), fun e => h1 (add_ne e (by decide)), fun e => h2 (add_ne e (by decide)), fun _ => ⟨a, b, rfl⟩, fun e => h4 (add_ne e (by decide)), fun e => h5 (add_ne e (by decide)), fun e => h6 (add_ne e (by decide)), fun e => h8 (add_ne e (by decide))⟩
      · -- 4
        obtain ⟨a, b, hx, h7, h9⟩ := hX
        refine wpOp_step rfl fun K hK => ?_
        go_simp
        exact hK _ _ ⟨_, _, _, _, _, _, _, _, rfl, ⟨a, b, hx, fun e => h7 (add_ne e (by decide)), fun e => h9 (add_ne e (by decide))⟩, hB, fun e => h0 (add_ne e (by decide)), fun e => h1 (add_ne e (by decide)), fun e => h2 (add_ne e (by decide)), fun e => h3 (add_ne e (by decide)), fun _ => rfl, fun e => h5 (add_ne e (by decide)), fun e => h6 (add_ne e (by decide)), fun e => h8 (add_ne e (by decide))⟩
      · -- 5
        obtain ⟨a, b, hx, h7, h9⟩ := hX
        obtain ⟨a2, b2, e3⟩ := h3 (hdep 3 (by decide +kernel))
        subst e3
        have e4 := h4 (hdep 4 (by decide +kernel))
        subst e4
        have hc := shortBy_any f a2 b2 p len cap cs wz (hTv.out.kept hB) hl ho.out hin.out
        rw [hS.out] at hc
        unfold s12 at hc
        unfold s12
        replace hc := Lib.hid hc
        refine wpOp_step rfl fun K hK => ?_
        go_simp
        go_at_call 69
        refine (hc.out).mono ?_
        rintro e w1 ⟨rfl, hb1⟩
        have hx2 : B12 w1 (w.heap.size + 2) f a b := (hb1.block _ (obj_lt hx)).trans hx
        have hB2 := hB.trans (hb1.mono hB.size)
        replace hx2 := Lib.hid hx2
        go_simp
        exact hK _ _ ⟨_, _, _, _, _, _, _, _, rfl, ⟨a, b, hx2.out, fun e => h7 (add_ne e (by decide)), fun e => h9 (add_ne e (by decide))⟩, hB2, fun e => h0 (add_ne e (by decide)), fun e => h1 (add_ne e (by decide)), fun e => h2 (add_ne e (by decide)), fun e => h3 (add_ne e (by decide)), fun e => h4 (add_ne e (by decide)), fun _ => rfl, fun e => h6 (add_ne e (by decide)), fun e => h8 (add_ne e (by decide))⟩
      · -- 6
        obtain ⟨a, b, hx, h7, h9⟩ := hX
        refine wpOp_step rfl fun K hK => ?_
        go_simp
        exact hK _ _ ⟨_, _, _, _, _, _, _, _, rfl, ⟨a, b, hx, fun e => h7 (add_ne e (by decide)), fun e => h9 (add_ne e (by decide))⟩, hB, fun e => h0 (add_ne e (by decide)), fun e => h1 (add_ne e (by decide)), fun e => h2 (add_ne e (by decide)), fun e => h3 (add_ne e (by decide)), fun e => h4 (add_ne e (by decide)), fun e => h5 (add_ne e (by decide)), fun _ => rfl, fun e => h8 (add_ne e (by decide))⟩
      · -- 7
        obtain ⟨a, b, hx, h7, h9⟩ := hX
        obtain ⟨y0, y1, y2, y3, y4, y5, y6, y7, y8, y9, y10, y11⟩ := hx.cells
        have hz := obj_free hx
        have e2 := h2 (hdep 2 (by decide +kernel))
        subst e2
        have e6 := h6 (hdep 6 (by decide +kernel))
        subst e6
        have hB3 := (hB.setCell (p := ⟨w.heap.size + 2, 8, none⟩) (by show v.heap.size ≤ w.heap.size + 2; omega) (.int .i64 NV.1)).setCell (p := ⟨w.heap.size + 2, 9, none⟩) (by show v.heap.size ≤ w.heap.size + 2; omega) (.int .i64 NV.2)
        have hx3 := hx.net NV
        replace hx3 := Lib.hid hx3
        replace hB3 := Lib.hid hB3
        replace hx := Lib.hid hx
        refine wpOp_step rfl fun K hK => ?_
        go_simp
        exact hK _ _ ⟨_, _, _, _, _, _, _, _, rfl, ⟨NV, b, hx3.out, fun _ => rfl, fun e => h9 (add_ne e (by decide))⟩, hB3.out, fun e => h0 (add_ne e (by decide)), fun e => h1 (add_ne e (by decide)), fun e => h2 (add_ne e (by decide)), fun e => h3 (add_ne e (by decide)), fun e => h4 (add_ne e (by decide)), fun e => h5 (add_ne e (by decide)), fun e => h6 (add_ne e (by decide)), fun e => h8 (add_ne e (by decide))⟩
      · -- 8
        obtain ⟨a, b, hx, h7, h9⟩ := hX
        refine wpOp_step rfl fun K hK => ?_
        go_simp
        exact hK _ _ ⟨_, _, _, _, _, _, _, _, rfl, ⟨a, b, hx, fun e => h7 (add_ne e (by decide)), fun e => h9 (add_ne e (by decide))⟩, hB, fun e => h0 (add_ne e (by decide)), fun e => h1 (add_ne e (by decide)), fun e => h2 (add_ne e (by decide)), fun e => h3 (add_ne e (by decide)), fun e => h4 (add_ne e (by decide)), fun e => h5 (add_ne e (by decide)), fun e => h6 (add_ne e (by decide)), fun _ => rfl⟩
      · -- 9
        obtain ⟨a, b, hx, h7, h9⟩ := hX
        obtain ⟨y0, y1, y2, y3, y4, y5, y6, y7, y8, y9, y10, y11⟩ := hx.cells
        have hz := obj_free hx
        have e5 := h5 (hdep 5 (by decide +kernel))
        subst e5
        have e8 := h8 (hdep 8 (by decide +kernel))
        subst e8
        have hB3 := (hB.setCell (p := ⟨w.heap.size + 2, 10, none⟩) (by show v.heap.size ≤ w.heap.size + 2; omega) (.int .i64 SV.1)).setCell (p := ⟨w.heap.size + 2, 11, none⟩) (by show v.heap.size ≤ w.heap.size + 2; omega) (.int .i64 SV.2)
        have hx3 := hx.short SV
        replace hx3 := Lib.hid hx3
        replace hB3 := Lib.hid hB3
        replace hx := Lib.hid hx
        refine wpOp_step rfl fun K hK => ?_
        go_simp
        exact hK _ _ ⟨_, _, _, _, _, _, _, _, rfl, ⟨a, SV, hx3.out, fun e => h7 (add_ne e (by decide)), fun _ => rfl⟩, hB3.out, fun e => h0 (add_ne e (by decide)), fun e => h1 (add_ne e (by decide)), fun e => h2 (add_ne e (by decide)), fun e => h3 (add_ne e (by decide)), fun e => h4 (add_ne e (by decide)), fun e => h5 (add_ne e (by decide)), fun e => h6 (add_ne e (by decide)), fun e => h8 (add_ne e (by decide))⟩
    · intro L az wz hI hL
      obtain ⟨v8, v9, v10, v11, v12, v13, v14, v15, rfl, hX, hB, h0, h1, h2, h3, h4, h5, h6, h8⟩ := hI
      obtain ⟨a, b, hx, h7, h9⟩ := hX
      refine hK1 _ _ (Met.intro (hJ1 _ _ ?_))
      (repeat apply Exists.intro)
      refine ⟨?rel, rfl⟩
      case rel => exact ⟨by rw [← h7 (hL 7 (by decide)), ← h9 (hL 9 (by decide))]; exact hx, hB⟩
  case rest =>
    obtain ⟨hxc, hBc⟩ := hcut
    obtain ⟨y0, y1, y2, y3, y4, y5, y6, y7, y8, y9, y10, y11⟩ := hxc.out.cells
    have hrc : B12 wc (w.heap.size + 1) (fun _ => 0) (0, 0) (0, 0) := (hBc.out.block _ (obj_lt hr0.out)).trans hr0.out
    obtain ⟨q0, q1, q2, q3, q4, q5, q6, q7, q8, q9, q10, q11⟩ := hrc.cells
    have hz := obj_free hrc
    have e8 := hR.out
    unfold s12 at e8
    replace e8 := Lib.hid e8
    go_wp2_with fail
    refine bodyPost_ret (v := .agg R) ?_ rfl ⟨rfl, ?_⟩
    · rw [← e8.out]; simp [results, Try.results43, go_sem, q0, q1, q2, q3, q4, q5, q6, q7, q8, q9, q10, q11]
    · have hBw : Below w.heap.size w wc := hB0.out.trans (hBc.out.mono (by omega))
      exact (((((((((((hBw.setCell (Nat.le_succ _) _).setCell (Nat.le_succ _) _).setCell (Nat.le_succ _) _).setCell (Nat.le_succ _) _).setCell (Nat.le_succ _) _).setCell (Nat.le_succ _) _).setCell (Nat.le_succ _) _).setCell (Nat.le_succ _) _).setCell (Nat.le_succ _) _).setCell (Nat.le_succ _) _).setCell (Nat.le_succ _) _).setCell (Nat.le_succ _) _
end Go.Proofs.Ytllhpdohahoelaa
