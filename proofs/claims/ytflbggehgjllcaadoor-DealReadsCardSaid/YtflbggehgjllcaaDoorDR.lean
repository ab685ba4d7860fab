/- The contracts of fits and countMatched. -/
import Derived.Test.YtflbggehgjllcaaDoorDO
import Derived.Test.YtflbggehgjllcaaDoorDC
import Derived.Shelf.Slices.In.SortNone
import Derived.Test.YtflbggehgjllcaaDoorUC
namespace Go.Proofs.YtflbggehgjllcaaDoor
open Go.RowKit Go.Maps Go.Sort
set_option linter.unusedVariables false

/-- may it be known behind those that are? -/
def Bk.fits (b : Bk) (x : En) : Bool := mayB x.d b.mem b.cur && (atL b.l x.d.id).isNone && x.may
section
variable {P : Nat → Prop} {w : World} {gb : Nat} {b : Bk} {v : Value} {mb : Nat} {D : DataW Value}
set_option maxHeartbeats 4000000 in
set_option maxRecDepth 100000 in
theorem fits_a (h : PBv P w gb b v mb D) (x : En) (hid : In64 x.d.id) (hlen : b.l.length ≤ 1000) (q1 : mayB x.d b.mem b.cur = false) : Calls Tryd.prog 39 #[.pointer (some ⟨gb, 0, none⟩), x.val] w fun e w' => e = .returned (.bool (b.fits x)) ∧ Below w.heap.size w w' := by
  have hb1 : Below w.heap.size w (w.alloc (.cells x.cs.toArray 65)) := (Below.refl _ _).alloc (Nat.le_refl _) _
  have hP1 := h.below hb1
  have hn := heap_alloc_new w (.cells x.cs.toArray 65)
  have hS : ∀ w2, Below (w.alloc (.cells x.cs.toArray 65)).heap.size (w.alloc (.cells x.cs.toArray 65)) w2 → w2.cell? ⟨gb, 0, none⟩ = some (.int .i64 b.mem) ∧ w2.cell? ⟨gb, 1, none⟩ = some (.int .i64 b.cur) ∧ (w2.cell? ⟨w.heap.size, 0, none⟩ = some (.int .i64 x.d.id) ∧ w2.cell? ⟨w.heap.size, 1, none⟩ = some (.int .i64 x.d.a) ∧ w2.cell? ⟨w.heap.size, 2, none⟩ = some (.int .i64 x.d.b) ∧ w2.cell? ⟨w.heap.size, 3, none⟩ = some (.int .i64 x.d.sc) ∧ w2.cell? ⟨w.heap.size, 4, none⟩ = some (.int .i64 x.d.bc) ∧ w2.cell? ⟨w.heap.size, 5, none⟩ = some (.int .i64 x.d.s) ∧ w2.cell? ⟨w.heap.size, 6, none⟩ = some (.int .i64 x.d.t)) ∧ w2.cell? ⟨w.heap.size, 7, none⟩ = some (.int .i64 x.st) ∧ w2.cell? ⟨w.heap.size, 8, none⟩ = some (.int .i64 x.ask) ∧ w2.cell? ⟨w.heap.size, 9, none⟩ = some (.int .i64 x.nth) := fun w2 hb => by
    have h2 := (hb.block w.heap.size (by simp)).trans hn
    have h3 := pb_head ⟨v, mb, D, hP1.below hb⟩
    exact ⟨h3.1, h3.2.1, ⟨obj_cell h2 rfl, obj_cell h2 rfl, obj_cell h2 rfl, obj_cell h2 rfl, obj_cell h2 rfl, obj_cell h2 rfl, obj_cell h2 rfl⟩, obj_cell h2 rfl, obj_cell h2 rfl, obj_cell h2 rfl⟩
  have hmay := fun w2 => mayBe_any x.d b.mem b.cur w2
  have hst := fun w2 => mayStand_any x w2
  have em : b.fits x = (mayB x.d b.mem b.cur && (atL b.l x.d.id).isNone && x.may) := rfl
  have hfn : True := trivial
  rw [q1] at em hmay
  clear h
  replace hS := Lib.hid hS
  replace hP1 := Lib.hid hP1
  replace hb1 := Lib.hid hb1
  replace hn := Lib.hid hn
  replace hid := Lib.hid hid
  replace hfn := Lib.hid hfn
  obtain ⟨R, hR⟩ : ∃ R, R = b.fits x := ⟨_, rfl⟩
  rw [← hR] at em ⊢
  replace hR := Lib.hid hR
  replace em : R = false := em
  replace em := Lib.hid em
  clear q1
  unfold En.val at *
  unfold Dl.val at hmay
  unfold En.cs at *
  go_enter Tryd.func39, Tryd.ntmps39
  go_wp2_with fail
  generalize w.alloc _ = W at *
  refine wp_region_closed (by kernel_rfl) (fun L az wz => ∃ v4 v5 v6 v7 v8 v9 v10 v11 v12 v13 v14 v15 v16 v17 v18 v19 v20 v21 v22 v23 v24 v25 v26 v27 : Value, az = ({ tmps := (Value.pointer (some ⟨gb, 0, none⟩) :: Value.agg #[Value.int IntKind.i64 x.d.id, Value.int IntKind.i64 x.d.a, Value.int IntKind.i64 x.d.b, Value.int IntKind.i64 x.d.sc, Value.int IntKind.i64 x.d.bc, Value.int IntKind.i64 x.d.s, Value.int IntKind.i64 x.d.t, Value.int IntKind.i64 x.st, Value.int IntKind.i64 x.ask, Value.int IntKind.i64 x.nth] :: undef :: Value.pointer (some ⟨w.heap.size, 0, none⟩) :: v4 :: v5 :: v6 :: v7 :: v8 :: v9 :: v10 :: v11 :: v12 :: v13 :: v14 :: v15 :: v16 :: v17 :: v18 :: v19 :: v20 :: v21 :: v22 :: v23 :: v24 :: v25 :: v26 :: v27 :: []).toArray, defers := [] } : Act) ∧ (Below W.heap.size W wz) ∧ (L 0 = true → v5 = Value.pointer (some ⟨w.heap.size, 0, none⟩)) ∧ (L 1 = true → v6 = Value.agg #[Value.int IntKind.i64 x.d.id, Value.int IntKind.i64 x.d.a, Value.int IntKind.i64 x.d.b, Value.int IntKind.i64 x.d.sc, Value.int IntKind.i64 x.d.bc, Value.int IntKind.i64 x.d.s, Value.int IntKind.i64 x.d.t]) ∧ (L 2 = true → v7 = Value.pointer (some ⟨gb, 0, none⟩)) ∧ (L 3 = true → v8 = Value.pointer (some ⟨gb, 0, none⟩)) ∧ (L 4 = true → v9 = Value.pointer (some ⟨gb, 0, none⟩)) ∧ (L 5 = true → v10 = Value.int IntKind.i64 b.mem) ∧ (L 6 = true → v11 = Value.pointer (some ⟨gb, 0, none⟩)) ∧ (L 7 = true → v12 = Value.pointer (some ⟨gb, 0, none⟩)) ∧ (L 8 = true → v13 = Value.pointer (some ⟨gb, 1, none⟩)) ∧ (L 9 = true → v14 = Value.int IntKind.i64 b.cur) ∧ (L 10 = true → v15 = Value.bool false) ∧ (L 11 = true → v16 = Value.bool false) ∧ (L 12 = true → v17 = undef) ∧ (L 13 = true → v18 = undef) ∧ (L 14 = true → v19 = undef) ∧ (L 15 = true → v20 = undef) ∧ (L 16 = true → v21 = undef) ∧ (L 17 = true → v22 = undef) ∧ (L 18 = true → v23 = Value.bool false) ∧ (L 19 = true → v24 = Value.bool false) ∧ (L 20 = true → v25 = undef) ∧ (L 21 = true → v26 = undef) ∧ (L 22 = true → v27 = Value.bool false) ∧ (L 23 = true → v4 = Value.bool false)) (by kernel_rfl) ?_ ?_ ?_
  · exact ⟨_, _, _, _, _, _, _, _, _, _, _, _, _, _, _, _, _, _, _, _, _, _, _, _, rfl, (Below.refl _ _).drew, nofun, nofun, nofun, nofun, nofun, nofun, nofun, nofun, nofun, nofun, nofun, nofun, nofun, nofun, nofun, nofun, nofun, nofun, nofun, nofun, nofun, nofun, nofun, nofun⟩
  · intro L az wz iz hiz hni hI hdep hcl
    obtain ⟨v4, v5, v6, v7, v8, v9, v10, v11, v12, v13, v14, v15, v16, v17, v18, v19, v20, v21, v22, v23, v24, v25, v26, v27, rfl, hW, h0, h1, h2, h3, h4, h5, h6, h7, h8, h9, h10, h11, h12, h13, h14, h15, h16, h17, h18, h19, h20, h21, h22, h23⟩ := hI
    have hcase : iz = 0 ∨ iz = 1 ∨ iz = 2 ∨ iz = 3 ∨ iz = 4 ∨ iz = 5 ∨ iz = 6 ∨ iz = 7 ∨ iz = 8 ∨ iz = 9 ∨ iz = 10 ∨ iz = 11 ∨ iz = 12 ∨ iz = 13 ∨ iz = 14 ∨ iz = 15 ∨ iz = 16 ∨ iz = 17 ∨ iz = 18 ∨ iz = 19 ∨ iz = 20 ∨ iz = 21 ∨ iz = 22 ∨ iz = 23 := by
      have hi2 : iz < 24 := hiz
      omega
    rcases hcase with rfl | rfl | rfl | rfl | rfl | rfl | rfl | rfl | rfl | rfl | rfl | rfl | rfl | rfl | rfl | rfl | rfl | rfl | rfl | rfl | rfl | rfl | rfl | rfl
    · -- 0
      refine wpOp_step rfl fun Kz hKz => ?_
      go_simp
      exact hKz _ _ ⟨_, _, _, _, _, _, _, _, _, _, _, _, _, _, _, _, _, _, _, _, _, _, _, _, rfl, hW, fun _ => rfl, fun e => h1 (add_ne e (by decide)), fun e => h2 (add_ne e (by decide)), fun e => h3 (add_ne e (by decide)), fun e => h4 (add_ne e (by decide)), fun e => h5 (add_ne e (by decide)), fun e => h6 (add_ne e (by decide)), fun e => h7 (add_ne e (by decide)), fun e => h8 (add_ne e (by decide)), fun e => h9 (add_ne e (by decide)), fun e => h10 (add_ne e (by decide)), fun e => h11 (add_ne e (by decide)), fun e => h12 (add_ne e (by decide)), fun e => h13 (add_ne e (by decide)), fun e => h14 (add_ne e (by decide)), fun e => h15 (add_ne e (by decide)), fun e => h16 (add_ne e (by decide)), fun e => h17 (add_ne e (by decide)), fun e => h18 (add_ne e (by decide)), fun e => h19 (add_ne e (by decide)), fun e => h20 (add_ne e (by decide)), fun e => h21 (add_ne e (by decide)), fun e => h22 (add_ne e (by decide)), fun e => h23 (add_ne e (by decide))⟩
    · -- 1
      have e0 := h0 (hdep 0 (by decide +kernel))
      subst e0
      obtain ⟨k8, k9, ⟨k0, k1, k2, k3, k4, k5, k6⟩, k7, k10, k11⟩ := hS.out wz hW
      refine wpOp_step rfl fun Kz hKz => ?_
      go_simp
      exact hKz _ _ ⟨_, _, _, _, _, _, _, _, _, _, _, _, _, _, _, _, _, _, _, _, _, _, _, _, rfl, hW, fun e => h0 (add_ne e (by decide)), fun _ => rfl, fun e => h2 (add_ne e (by decide)), fun e => h3 (add_ne e (by decide)), fun e => h4 (add_ne e (by decide)), fun e => h5 (add_ne e (by decide)), fun e => h6 (add_ne e (by decide)), fun e => h7 (add_ne e (by decide)), fun e => h8 (add_ne e (by decide)), fun e => h9 (add_ne e (by decide)), fun e => h10 (add_ne e (by decide)), fun e => h11 (add_ne e (by decide)), fun e => h12 (add_ne e (by decide)), fun e => h13 (add_ne e (by decide)), fun e => h14 (add_ne e (by decide)), fun e => h15 (add_ne e (by decide)), fun e => h16 (add_ne e (by decide)), fun e => h17 (add_ne e (by decide)), fun e => h18 (add_ne e (by decide)), fun e => h19 (add_ne e (by decide)), fun e => h20 (add_ne e (by decide)), fun e => h21 (add_ne e (by decide)), fun e => h22 (add_ne e (by decide)), fun e => h23 (add_ne e (by decide))⟩
    · -- 2
      refine wpOp_step rfl fun Kz hKz => ?_
      go_simp
      exact hKz _ _ ⟨_, _, _, _, _, _, _, _, _, _, _, _, _, _, _, _, _, _, _, _, _, _, _, _, rfl, hW, fun e => h0 (add_ne e (by decide)), fun e => h1 (add_ne e (by decide)), fun _ => rfl, fun e => h3 (add_ne e (by decide)), fun e => h4 (add_ne e (by decide)), fun e => h5 (add_ne e (by decide)), fun e => h6 (add_ne e (by decide)), fun e => h7 (add_ne e (by decide)), fun e => h8 (add_ne e (by decide)), fun e => h9 (add_ne e (by decide)), fun e => h10 (add_ne e (by decide)), fun e => h11 (add_ne e (by decide)), fun e => h12 (add_ne e (by decide)), fun e => h13 (add_ne e (by decide)), fun e => h14 (add_ne e (by decide)), fun e => h15 (add_ne e (by decide)), fun e => h16 (add_ne e (by decide)), fun e => h17 (add_ne e (by decide)), fun e => h18 (add_ne e (by decide)), fun e => h19 (add_ne e (by decide)), fun e => h20 (add_ne e (by decide)), fun e => h21 (add_ne e (by decide)), fun e => h22 (add_ne e (by decide)), fun e => h23 (add_ne e (by decide))⟩
    · -- 3
      have e2 := h2 (hdep 2 (by decide +kernel))
      subst e2
      refine wpOp_step rfl fun Kz hKz => ?_
      go_simp
      exact hKz _ _ ⟨_, _, _, _, _, _, _, _, _, _, _, _, _, _, _, _, _, _, _, _, _, _, _, _, rfl, hW, fun e => h0 (add_ne e (by decide)), fun e => h1 (add_ne e (by decide)), fun e => h2 (add_ne e (by decide)), fun _ => rfl, fun e => h4 (add_ne e (by decide)), fun e => h5 (add_ne e (by decide)), fun e => h6 (add_ne e (by decide)), fun e => h7 (add_ne e (by decide)), fun e => h8 (add_ne e (by decide)), fun e => h9 (add_ne e (by decide)), fun e => h10 (add_ne e (by decide)), fun e => h11 (add_ne e (by decide)), fun e => h12 (add_ne e (by decide)), fun e => h13 (add_ne e (by decide)), fun e => h14 (add_ne e (by decide)), fun e => h15 (add_ne e (by decide)), fun e => h16 (add_ne e (by decide)), fun e => h17 (add_ne e (by decide)), fun e => h18 (add_ne e (by decide)), fun e => h19 (add_ne e (by decide)), fun e => h20 (add_ne e (by decide)), fun e => h21 (add_ne e (by decide)), fun e => h22 (add_ne e (by decide)), fun e => h23 (add_ne e (by decide))⟩
    · -- 4
      have e3 := h3 (hdep 3 (by decide +kernel))
      subst e3
      refine wpOp_step rfl fun Kz hKz => ?_
      go_simp
      exact hKz _ _ ⟨_, _, _, _, _, _, _, _, _, _, _, _, _, _, _, _, _, _, _, _, _, _, _, _, rfl, hW, fun e => h0 (add_ne e (by decide)), fun e => h1 (add_ne e (by decide)), fun e => h2 (add_ne e (by decide)), fun e => h3 (add_ne e (by decide)), fun _ => rfl, fun e => h5 (add_ne e (by decide)), fun e => h6 (add_ne e (by decide)), fun e => h7 (add_ne e (by decide)), fun e => h8 (add_ne e (by decide)), fun e => h9 (add_ne e (by decide)), fun e => h10 (add_ne e (by decide)), fun e => h11 (add_ne e (by decide)), fun e => h12 (add_ne e (by decide)), fun e => h13 (add_ne e (by decide)), fun e => h14 (add_ne e (by decide)), fun e => h15 (add_ne e (by decide)), fun e => h16 (add_ne e (by decide)), fun e => h17 (add_ne e (by decide)), fun e => h18 (add_ne e (by decide)), fun e => h19 (add_ne e (by decide)), fun e => h20 (add_ne e (by decide)), fun e => h21 (add_ne e (by decide)), fun e => h22 (add_ne e (by decide)), fun e => h23 (add_ne e (by decide))⟩
    · -- 5
      have e4 := h4 (hdep 4 (by decide +kernel))
      subst e4
      obtain ⟨k8, k9, ⟨k0, k1, k2, k3, k4, k5, k6⟩, k7, k10, k11⟩ := hS.out wz hW
      refine wpOp_step rfl fun Kz hKz => ?_
      go_simp
      exact hKz _ _ ⟨_, _, _, _, _, _, _, _, _, _, _, _, _, _, _, _, _, _, _, _, _, _, _, _, rfl, hW, fun e => h0 (add_ne e (by decide)), fun e => h1 (add_ne e (by decide)), fun e => h2 (add_ne e (by decide)), fun e => h3 (add_ne e (by decide)), fun e => h4 (add_ne e (by decide)), fun _ => rfl, fun e => h6 (add_ne e (by decide)), fun e => h7 (add_ne e (by decide)), fun e => h8 (add_ne e (by decide)), fun e => h9 (add_ne e (by decide)), fun e => h10 (add_ne e (by decide)), fun e => h11 (add_ne e (by decide)), fun e => h12 (add_ne e (by decide)), fun e => h13 (add_ne e (by decide)), fun e => h14 (add_ne e (by decide)), fun e => h15 (add_ne e (by decide)), fun e => h16 (add_ne e (by decide)), fun e => h17 (add_ne e (by decide)), fun e => h18 (add_ne e (by decide)), fun e => h19 (add_ne e (by decide)), fun e => h20 (add_ne e (by decide)), fun e => h21 (add_ne e (by decide)), fun e => h22 (add_ne e (by decide)), fun e => h23 (add_ne e (by decide))⟩
    · -- 6
      refine wpOp_step rfl fun Kz hKz => ?_
      go_simp
      exact hKz _ _ ⟨_, _, _, _, _, _, _, _, _, _, _, _, _, _, _, _, _, _, _, _, _, _, _, _, rfl, hW, fun e => h0 (add_ne e (by decide)), fun e => h1 (add_ne e (by decide)), fun e => h2 (add_ne e (by decide)), fun e => h3 (add_ne e (by decide)), fun e => h4 (add_ne e (by decide)), fun e => h5 (add_ne e (by decide)), fun _ => rfl, fun e => h7 (add_ne e (by decide)), fun e => h8 (add_ne e (by decide)), fun e => h9 (add_ne e (by decide)), fun e => h10 (add_ne e (by decide)), fun e => h11 (add_ne e (by decide)), fun e => h12 (add_ne e (by decide)), fun e => h13 (add_ne e (by decide)), fun e => h14 (add_ne e (by decide)), fun e => h15 (add_ne e (by decide)), fun e => h16 (add_ne e (by decide)), fun e => h17 (add_ne e (by decide)), fun e => h18 (add_ne e (by decide)), fun e => h19 (add_ne e (by decide)), fun e => h20 (add_ne e (by decide)), fun e => h21 (add_ne e (by decide)), fun e => h22 (add_ne e (by decide)), fun e => h23 (add_ne e (by decide))⟩
    · -- 7
      have e6 := h6 (hdep 6 (by decide +kernel))
      subst e6
      refine wpOp_step rfl fun Kz hKz => ?_
      go_simp
      exact hKz _ _ ⟨_, _, _, _, _, _, _, _, _, _, _, _, _, _, _, _, _, _, _, _, _, _, _, _, rfl, hW, fun e => h0 (add_ne e (by decide)), fun e => h1 (add_ne e (by decide)), fun e => h2 (add_ne e (by decide)), fun e => h3 (add_ne e (by decide)), fun e => h4 (add_ne e (by decide)), fun e => h5 (add_ne e (by decide)), fun e => h6 (add_ne e (by decide)), fun _ => rfl, fun e => h8 (add_ne e (by decide)), fun e => h9 (add_ne e (by decide)), fun e => h10 (add_ne e (by decide)), fun e => h11 (add_ne e (by decide)), fun e => h12 (add_ne e (by decide)), fun e => h13 (add_ne e (by decide)), fun e => h14 (add_ne e (by decide)), fun e => h15 (add_ne e (by decide)), fun e => h16 (add_ne e (by decide)), fun e => h17 (add_ne e (by decide)), fun e => h18 (add_ne e (by decide)), fun e => h19 (add_ne e (by decide)), fun e => h20 (add_ne e (by decide)), fun e => h21 (add_ne e (by decide)), fun e => h22 (add_ne e (by decide)), fun e => h23 (add_ne e (by decide))⟩
    · -- 8
      have e7 := h7 (hdep 7 (by decide +kernel))
      subst e7
      refine wpOp_step rfl fun Kz hKz => ?_
      go_simp
      exact hKz _ _ ⟨_, _, _, _, _, _, _, _, _, _, _, _, _, _, _, _, _, _, _, _, _, _, _, _, rfl, hW, fun e => h0 (add_ne e (by decide)), fun e => h1 (add_ne e (by decide)), fun e => h2 (add_ne e (by decide)), fun e => h3 (add_ne e (by decide)), fun e => h4 (add_ne e (by decide)), fun e => h5 (add_ne e (by decide)), fun e => h6 (add_ne e (by decide)), fun e => h7 (add_ne e (by decide)), fun _ => rfl, fun e => h9 (add_ne e (by decide)), fun e => h10 (add_ne e (by decide)), fun e => h11 (add_ne e (by decide)), fun e => h12 (add_ne e (by decide)), fun e => h13 (add_ne e (by decide)), fun e => h14 (add_ne e (by decide)), fun e => h15 (add_ne e (by decide)), fun e => h16 (add_ne e (by decide)), fun e => h17 (add_ne e (by decide)), fun e => h18 (add_ne e (by decide)), fun e => h19 (add_ne e (by decide)), fun e => h20 (add_ne e (by decide)), fun e => h21 (add_ne e (by decide)), fun e => h22 (add_ne e (by decide)), fun e => h23 (add_ne e (by decide))⟩
    · -- 9
      have e8 := h8 (hdep 8 (by decide +kernel))
      subst e8
      obtain ⟨k8, k9, ⟨k0, k1, k2, k3, k4, k5, k6⟩, k7, k10, k11⟩ := hS.out wz hW
      refine wpOp_step rfl fun Kz hKz => ?_
      go_simp
      exact hKz _ _ ⟨_, _, _, _, _, _, _, _, _, _, _, _, _, _, _, _, _, _, _, _, _, _, _, _, rfl, hW, fun e => h0 (add_ne e (by decide)), fun e => h1 (add_ne e (by decide)), fun e => h2 (add_ne e (by decide)), fun e => h3 (add_ne e (by decide)), fun e => h4 (add_ne e (by decide)), fun e => h5 (add_ne e (by decide)), fun e => h6 (add_ne e (by decide)), fun e => h7 (add_ne e (by decide)), fun e => h8 (add_ne e (by decide)), fun _ => rfl, fun e => h10 (add_ne e (by decide)), fun e => h11 (add_ne e (by decide)), fun e => h12 (add_ne e (by decide)), fun e => h13 (add_ne e (by decide)), fun e => h14 (add_ne e (by decide)), fun e => h15 (add_ne e (by decide)), fun e => h16 (add_ne e (by decide)), fun e => h17 (add_ne e (by decide)), fun e => h18 (add_ne e (by decide)), fun e => h19 (add_ne e (by decide)), fun e => h20 (add_ne e (by decide)), fun e => h21 (add_ne e (by decide)), fun e => h22 (add_ne e (by decide)), fun e => h23 (add_ne e (by decide))⟩
    · -- 10
      have e1 := h1 (hdep 1 (by decide +kernel))
      subst e1
      have e5 := h5 (hdep 5 (by decide +kernel))
      subst e5
      have e9 := h9 (hdep 9 (by decide +kernel))
      subst e9
      refine wpOp_step rfl fun Kz hKz => ?_
      go_simp
      go_at_call 45
      refine (hmay _).mono ?_
      rintro e w1 ⟨rfl, hb2⟩
      go_simp
      exact hKz _ _ ⟨_, _, _, _, _, _, _, _, _, _, _, _, _, _, _, _, _, _, _, _, _, _, _, _, rfl, hW.trans (hb2.mono hW.size), fun e => h0 (add_ne e (by decide)), fun e => h1 (add_ne e (by decide)), fun e => h2 (add_ne e (by decide)), fun e => h3 (add_ne e (by decide)), fun e => h4 (add_ne e (by decide)), fun e => h5 (add_ne e (by decide)), fun e => h6 (add_ne e (by decide)), fun e => h7 (add_ne e (by decide)), fun e => h8 (add_ne e (by decide)), fun e => h9 (add_ne e (by decide)), fun _ => rfl, fun e => h11 (add_ne e (by decide)), fun e => h12 (add_ne e (by decide)), fun e => h13 (add_ne e (by decide)), fun e => h14 (add_ne e (by decide)), fun e => h15 (add_ne e (by decide)), fun e => h16 (add_ne e (by decide)), fun e => h17 (add_ne e (by decide)), fun e => h18 (add_ne e (by decide)), fun e => h19 (add_ne e (by decide)), fun e => h20 (add_ne e (by decide)), fun e => h21 (add_ne e (by decide)), fun e => h22 (add_ne e (by decide)), fun e => h23 (add_ne e (by decide))⟩
    · -- 11
      have e10 := h10 (hdep 10 (by decide +kernel))
      subst e10
      refine wpOp_step rfl fun Kz hKz => ?_
      go_simp
      exact hKz _ _ ⟨_, _, _, _, _, _, _, _, _, _, _, _, _, _, _, _, _, _, _, _, _, _, _, _, rfl, hW, fun e => h0 (add_ne e (by decide)), fun e => h1 (add_ne e (by decide)), fun e => h2 (add_ne e (by decide)), fun e => h3 (add_ne e (by decide)), fun e => h4 (add_ne e (by decide)), fun e => h5 (add_ne e (by decide)), fun e => h6 (add_ne e (by decide)), fun e => h7 (add_ne e (by decide)), fun e => h8 (add_ne e (by decide)), fun e => h9 (add_ne e (by decide)), fun e => h10 (add_ne e (by decide)), fun _ => rfl, fun e => h12 (add_ne e (by decide)), fun e => h13 (add_ne e (by decide)), fun e => h14 (add_ne e (by decide)), fun e => h15 (add_ne e (by decide)), fun e => h16 (add_ne e (by decide)), fun e => h17 (add_ne e (by decide)), fun e => h18 (add_ne e (by decide)), fun e => h19 (add_ne e (by decide)), fun e => h20 (add_ne e (by decide)), fun e => h21 (add_ne e (by decide)), fun e => h22 (add_ne e (by decide)), fun e => h23 (add_ne e (by decide))⟩
    · -- 12
      have e11 := h11 (hdep 11 (by decide +kernel))
      subst e11
      refine wpOp_step rfl fun Kz hKz => ?_
      go_simp
      exact hKz _ _ ⟨_, _, _, _, _, _, _, _, _, _, _, _, _, _, _, _, _, _, _, _, _, _, _, _, rfl, hW, fun e => h0 (add_ne e (by decide)), fun e => h1 (add_ne e (by decide)), fun e => h2 (add_ne e (by decide)), fun e => h3 (add_ne e (by decide)), fun e => h4 (add_ne e (by decide)), fun e => h5 (add_ne e (by decide)), fun e => h6 (add_ne e (by decide)), fun e => h7 (add_ne e (by decide)), fun e => h8 (add_ne e (by decide)), fun e => h9 (add_ne e (by decide)), fun e => h10 (add_ne e (by decide)), fun e => h11 (add_ne e (by decide)), fun _ => rfl, fun e => h13 (add_ne e (by decide)), fun e => h14 (add_ne e (by decide)), fun e => h15 (add_ne e (by decide)), fun e => h16 (add_ne e (by decide)), fun e => h17 (add_ne e (by decide)), fun e => h18 (add_ne e (by decide)), fun e => h19 (add_ne e (by decide)), fun e => h20 (add_ne e (by decide)), fun e => h21 (add_ne e (by decide)), fun e => h22 (add_ne e (by decide)), fun e => h23 (add_ne e (by decide))⟩
    · -- 13
      have e11 := h11 (hdep 11 (by decide +kernel))
      subst e11
      refine wpOp_step rfl fun Kz hKz => ?_
      go_simp
      exact hKz _ _ ⟨_, _, _, _, _, _, _, _, _, _, _, _, _, _, _, _, _, _, _, _, _, _, _, _, rfl, hW, fun e => h0 (add_ne e (by decide)), fun e => h1 (add_ne e (by decide)), fun e => h2 (add_ne e (by decide)), fun e => h3 (add_ne e (by decide)), fun e => h4 (add_ne e (by decide)), fun e => h5 (add_ne e (by decide)), fun e => h6 (add_ne e (by decide)), fun e => h7 (add_ne e (by decide)), fun e => h8 (add_ne e (by decide)), fun e => h9 (add_ne e (by decide)), fun e => h10 (add_ne e (by decide)), fun e => h11 (add_ne e (by decide)), fun e => h12 (add_ne e (by decide)), fun _ => rfl, fun e => h14 (add_ne e (by decide)), fun e => h15 (add_ne e (by decide)), fun e => h16 (add_ne e (by decide)), fun e => h17 (add_ne e (by decide)), fun e => h18 (add_ne e (by decide)), fun e => h19 (add_ne e (by decide)), fun e => h20 (add_ne e (by decide)), fun e => h21 (add_ne e (by decide)), fun e => h22 (add_ne e (by decide)), fun e => h23 (add_ne e (by decide))⟩
    · -- 14
      have e11 := h11 (hdep 11 (by decide +kernel))
      subst e11
      have e13 := h13 (hdep 13 (by decide +kernel))
      subst e13
      refine wpOp_step rfl fun Kz hKz => ?_
      go_simp
      exact hKz _ _ ⟨_, _, _, _, _, _, _, _, _, _, _, _, _, _, _, _, _, _, _, _, _, _, _, _, rfl, hW, fun e => h0 (add_ne e (by decide)), fun e => h1 (add_ne e (by decide)), fun e => h2 (add_ne e (by decide)), fun e => h3 (add_ne e (by decide)), fun e => h4 (add_ne e (by decide)), fun e => h5 (add_ne e (by decide)), fun e => h6 (add_ne e (by decide)), fun e => h7 (add_ne e (by decide)), fun e => h8 (add_ne e (by decide)), fun e => h9 (add_ne e (by decide)), fun e => h10 (add_ne e (by decide)), fun e => h11 (add_ne e (by decide)), fun e => h12 (add_ne e (by decide)), fun e => h13 (add_ne e (by decide)), fun _ => rfl, fun e => h15 (add_ne e (by decide)), fun e => h16 (add_ne e (by decide)), fun e => h17 (add_ne e (by decide)), fun e => h18 (add_ne e (by decide)), fun e => h19 (add_ne e (by decide)), fun e => h20 (add_ne e (by decide)), fun e => h21 (add_ne e (by decide)), fun e => h22 (add_ne e (by decide)), fun e => h23 (add_ne e (by decide))⟩
    · -- 15
      have e11 := h11 (hdep 11 (by decide +kernel))
      subst e11
      have e14 := h14 (hdep 14 (by decide +kernel))
      subst e14
      refine wpOp_step rfl fun Kz hKz => ?_
      go_simp
      exact hKz _ _ ⟨_, _, _, _, _, _, _, _, _, _, _, _, _, _, _, _, _, _, _, _, _, _, _, _, rfl, hW, fun e => h0 (add_ne e (by decide)), fun e => h1 (add_ne e (by decide)), fun e => h2 (add_ne e (by decide)), fun e => h3 (add_ne e (by decide)), fun e => h4 (add_ne e (by decide)), fun e => h5 (add_ne e (by decide)), fun e => h6 (add_ne e (by decide)), fun e => h7 (add_ne e (by decide)), fun e => h8 (add_ne e (by decide)), fun e => h9 (add_ne e (by decide)), fun e => h10 (add_ne e (by decide)), fun e => h11 (add_ne e (by decide)), fun e => h12 (add_ne e (by decide)), fun e => h13 (add_ne e (by decide)), fun e => h14 (add_ne e (by decide)), fun _ => rfl, fun e => h16 (add_ne e (by decide)), fun e => h17 (add_ne e (by decide)), fun e => h18 (add_ne e (by decide)), fun e => h19 (add_ne e (by decide)), fun e => h20 (add_ne e (by decide)), fun e => h21 (add_ne e (by decide)), fun e => h22 (add_ne e (by decide)), fun e => h23 (add_ne e (by decide))⟩
    · -- 16
      have e11 := h11 (hdep 11 (by decide +kernel))
      subst e11
      have e12 := h12 (hdep 12 (by decide +kernel))
      subst e12
      have e15 := h15 (hdep 15 (by decide +kernel))
      subst e15
      refine wpOp_step rfl fun Kz hKz => ?_
      go_simp
      exact hKz _ _ ⟨_, _, _, _, _, _, _, _, _, _, _, _, _, _, _, _, _, _, _, _, _, _, _, _, rfl, hW, fun e => h0 (add_ne e (by decide)), fun e => h1 (add_ne e (by decide)), fun e => h2 (add_ne e (by decide)), fun e => h3 (add_ne e (by decide)), fun e => h4 (add_ne e (by decide)), fun e => h5 (add_ne e (by decide)), fun e => h6 (add_ne e (by decide)), fun e => h7 (add_ne e (by decide)), fun e => h8 (add_ne e (by decide)), fun e => h9 (add_ne e (by decide)), fun e => h10 (add_ne e (by decide)), fun e => h11 (add_ne e (by decide)), fun e => h12 (add_ne e (by decide)), fun e => h13 (add_ne e (by decide)), fun e => h14 (add_ne e (by decide)), fun e => h15 (add_ne e (by decide)), fun _ => rfl, fun e => h17 (add_ne e (by decide)), fun e => h18 (add_ne e (by decide)), fun e => h19 (add_ne e (by decide)), fun e => h20 (add_ne e (by decide)), fun e => h21 (add_ne e (by decide)), fun e => h22 (add_ne e (by decide)), fun e => h23 (add_ne e (by decide))⟩
    · -- 17
      have e11 := h11 (hdep 11 (by decide +kernel))
      subst e11
      have e16 := h16 (hdep 16 (by decide +kernel))
      subst e16
      refine wpOp_step rfl fun Kz hKz => ?_
      go_simp
      exact hKz _ _ ⟨_, _, _, _, _, _, _, _, _, _, _, _, _, _, _, _, _, _, _, _, _, _, _, _, rfl, hW, fun e => h0 (add_ne e (by decide)), fun e => h1 (add_ne e (by decide)), fun e => h2 (add_ne e (by decide)), fun e => h3 (add_ne e (by decide)), fun e => h4 (add_ne e (by decide)), fun e => h5 (add_ne e (by decide)), fun e => h6 (add_ne e (by decide)), fun e => h7 (add_ne e (by decide)), fun e => h8 (add_ne e (by decide)), fun e => h9 (add_ne e (by decide)), fun e => h10 (add_ne e (by decide)), fun e => h11 (add_ne e (by decide)), fun e => h12 (add_ne e (by decide)), fun e => h13 (add_ne e (by decide)), fun e => h14 (add_ne e (by decide)), fun e => h15 (add_ne e (by decide)), fun e => h16 (add_ne e (by decide)), fun _ => rfl, fun e => h18 (add_ne e (by decide)), fun e => h19 (add_ne e (by decide)), fun e => h20 (add_ne e (by decide)), fun e => h21 (add_ne e (by decide)), fun e => h22 (add_ne e (by decide)), fun e => h23 (add_ne e (by decide))⟩
    · -- 18
      have e11 := h11 (hdep 11 (by decide +kernel))
      subst e11
      have e17 := h17 (hdep 17 (by decide +kernel))
      subst e17
      refine wpOp_step rfl fun Kz hKz => ?_
      go_simp
      exact hKz _ _ ⟨_, _, _, _, _, _, _, _, _, _, _, _, _, _, _, _, _, _, _, _, _, _, _, _, rfl, hW, fun e => h0 (add_ne e (by decide)), fun e => h1 (add_ne e (by decide)), fun e => h2 (add_ne e (by decide)), fun e => h3 (add_ne e (by decide)), fun e => h4 (add_ne e (by decide)), fun e => h5 (add_ne e (by decide)), fun e => h6 (add_ne e (by decide)), fun e => h7 (add_ne e (by decide)), fun e => h8 (add_ne e (by decide)), fun e => h9 (add_ne e (by decide)), fun e => h10 (add_ne e (by decide)), fun e => h11 (add_ne e (by decide)), fun e => h12 (add_ne e (by decide)), fun e => h13 (add_ne e (by decide)), fun e => h14 (add_ne e (by decide)), fun e => h15 (add_ne e (by decide)), fun e => h16 (add_ne e (by decide)), fun e => h17 (add_ne e (by decide)), fun _ => rfl, fun e => h19 (add_ne e (by decide)), fun e => h20 (add_ne e (by decide)), fun e => h21 (add_ne e (by decide)), fun e => h22 (add_ne e (by decide)), fun e => h23 (add_ne e (by decide))⟩
    · -- 19
      have e18 := h18 (hdep 18 (by decide +kernel))
      subst e18
      refine wpOp_step rfl fun Kz hKz => ?_
      go_simp
      exact hKz _ _ ⟨_, _, _, _, _, _, _, _, _, _, _, _, _, _, _, _, _, _, _, _, _, _, _, _, rfl, hW, fun e => h0 (add_ne e (by decide)), fun e => h1 (add_ne e (by decide)), fun e => h2 (add_ne e (by decide)), fun e => h3 (add_ne e (by decide)), fun e => h4 (add_ne e (by decide)), fun e => h5 (add_ne e (by decide)), fun e => h6 (add_ne e (by decide)), fun e => h7 (add_ne e (by decide)), fun e => h8 (add_ne e (by decide)), fun e => h9 (add_ne e (by decide)), fun e => h10 (add_ne e (by decide)), fun e => h11 (add_ne e (by decide)), fun e => h12 (add_ne e (by decide)), fun e => h13 (add_ne e (by decide)), fun e => h14 (add_ne e (by decide)), fun e => h15 (add_ne e (by decide)), fun e => h16 (add_ne e (by decide)), fun e => h17 (add_ne e (by decide)), fun e => h18 (add_ne e (by decide)), fun _ => rfl, fun e => h20 (add_ne e (by decide)), fun e => h21 (add_ne e (by decide)), fun e => h22 (add_ne e (by decide)), fun e => h23 (add_ne e (by decide))⟩
    · -- 20
      have e19 := h19 (hdep 19 (by decide +kernel))
      subst e19
      refine wpOp_step rfl fun Kz hKz => ?_
      go_simp
      exact hKz _ _ ⟨_, _, _, _, _, _, _, _, _, _, _, _, _, _, _, _, _, _, _, _, _, _, _, _, rfl, hW, fun e => h0 (add_ne e (by decide)), fun e => h1 (add_ne e (by decide)), fun e => h2 (add_ne e (by decide)), fun e => h3 (add_ne e (by decide)), fun e => h4 (add_ne e (by decide)), fun e => h5 (add_ne e (by decide)), fun e => h6 (add_ne e (by decide)), fun e => h7 (add_ne e (by decide)), fun e => h8 (add_ne e (by decide)), fun e => h9 (add_ne e (by decide)), fun e => h10 (add_ne e (by decide)), fun e => h11 (add_ne e (by decide)), fun e => h12 (add_ne e (by decide)), fun e => h13 (add_ne e (by decide)), fun e => h14 (add_ne e (by decide)), fun e => h15 (add_ne e (by decide)), fun e => h16 (add_ne e (by decide)), fun e => h17 (add_ne e (by decide)), fun e => h18 (add_ne e (by decide)), fun e => h19 (add_ne e (by decide)), fun _ => rfl, fun e => h21 (add_ne e (by decide)), fun e => h22 (add_ne e (by decide)), fun e => h23 (add_ne e (by decide))⟩
    · -- 21
      have e19 := h19 (hdep 19 (by decide +kernel))
      subst e19
      have e20 := h20 (hdep 20 (by decide +kernel))
      subst e20
      refine wpOp_step rfl fun Kz hKz => ?_
      go_simp
      exact hKz _ _ ⟨_, _, _, _, _, _, _, _, _, _, _, _, _, _, _, _, _, _, _, _, _, _, _, _, rfl, hW, fun e => h0 (add_ne e (by decide)), fun e => h1 (add_ne e (by decide)), fun e => h2 (add_ne e (by decide)), fun e => h3 (add_ne e (by decide)), fun e => h4 (add_ne e (by decide)), fun e => h5 (add_ne e (by decide)), fun e => h6 (add_ne e (by decide)), fun e => h7 (add_ne e (by decide)), fun e => h8 (add_ne e (by decide)), fun e => h9 (add_ne e (by decide)), fun e => h10 (add_ne e (by decide)), fun e => h11 (add_ne e (by decide)), fun e => h12 (add_ne e (by decide)), fun e => h13 (add_ne e (by decide)), fun e => h14 (add_ne e (by decide)), fun e => h15 (add_ne e (by decide)), fun e => h16 (add_ne e (by decide)), fun e => h17 (add_ne e (by decide)), fun e => h18 (add_ne e (by decide)), fun e => h19 (add_ne e (by decide)), fun e => h20 (add_ne e (by decide)), fun _ => rfl, fun e => h22 (add_ne e (by decide)), fun e => h23 (add_ne e (by decide))⟩
    · -- 22
      have e19 := h19 (hdep 19 (by decide +kernel))
      subst e19
      have e21 := h21 (hdep 21 (by decide +kernel))
      subst e21
      refine wpOp_step rfl fun Kz hKz => ?_
      go_simp
      exact hKz _ _ ⟨_, _, _, _, _, _, _, _, _, _, _, _, _, _, _, _, _, _, _, _, _, _, _, _, rfl, hW, fun e => h0 (add_ne e (by decide)), fun e => h1 (add_ne e (by decide)), fun e => h2 (add_ne e (by decide)), fun e => h3 (add_ne e (by decide)), fun e => h4 (add_ne e (by decide)), fun e => h5 (add_ne e (by decide)), fun e => h6 (add_ne e (by decide)), fun e => h7 (add_ne e (by decide)), fun e => h8 (add_ne e (by decide)), fun e => h9 (add_ne e (by decide)), fun e => h10 (add_ne e (by decide)), fun e => h11 (add_ne e (by decide)), fun e => h12 (add_ne e (by decide)), fun e => h13 (add_ne e (by decide)), fun e => h14 (add_ne e (by decide)), fun e => h15 (add_ne e (by decide)), fun e => h16 (add_ne e (by decide)), fun e => h17 (add_ne e (by decide)), fun e => h18 (add_ne e (by decide)), fun e => h19 (add_ne e (by decide)), fun e => h20 (add_ne e (by decide)), fun e => h21 (add_ne e (by decide)), fun _ => rfl, fun e => h23 (add_ne e (by decide))⟩
    · -- 23
      have e22 := h22 (hdep 22 (by decide +kernel))
      subst e22
      refine wpOp_step rfl fun Kz hKz => ?_
      go_simp
      exact hKz _ _ ⟨_, _, _, _, _, _, _, _, _, _, _, _, _, _, _, _, _, _, _, _, _, _, _, _, rfl, hW, fun e => h0 (add_ne e (by decide)), fun e => h1 (add_ne e (by decide)), fun e => h2 (add_ne e (by decide)), fun e => h3 (add_ne e (by decide)), fun e => h4 (add_ne e (by decide)), fun e => h5 (add_ne e (by decide)), fun e => h6 (add_ne e (by decide)), fun e => h7 (add_ne e (by decide)), fun e => h8 (add_ne e (by decide)), fun e => h9 (add_ne e (by decide)), fun e => h10 (add_ne e (by decide)), fun e => h11 (add_ne e (by decide)), fun e => h12 (add_ne e (by decide)), fun e => h13 (add_ne e (by decide)), fun e => h14 (add_ne e (by decide)), fun e => h15 (add_ne e (by decide)), fun e => h16 (add_ne e (by decide)), fun e => h17 (add_ne e (by decide)), fun e => h18 (add_ne e (by decide)), fun e => h19 (add_ne e (by decide)), fun e => h20 (add_ne e (by decide)), fun e => h21 (add_ne e (by decide)), fun e => h22 (add_ne e (by decide)), fun _ => rfl⟩
  · intro L az wz hI hL
    obtain ⟨v4, v5, v6, v7, v8, v9, v10, v11, v12, v13, v14, v15, v16, v17, v18, v19, v20, v21, v22, v23, v24, v25, v26, v27, rfl, hW, h0, h1, h2, h3, h4, h5, h6, h7, h8, h9, h10, h11, h12, h13, h14, h15, h16, h17, h18, h19, h20, h21, h22, h23⟩ := hI
    have e23 := h23 (hL 23 (by decide))
    subst e23
    go_wp2_with fail
    go_ret
    exact ⟨by rw [em.out]; rfl, hb1.out.trans (hW.mono hb1.out.size)⟩
set_option maxHeartbeats 4000000 in
set_option maxRecDepth 100000 in
theorem fits_b (h : PBv P w gb b v mb D) (x : En) (hid : In64 x.d.id) (hlen : b.l.length ≤ 1000) (q1 : mayB x.d b.mem b.cur = true) {i : Nat} (ha : atL b.l x.d.id = some i) : Calls Tryd.prog 39 #[.pointer (some ⟨gb, 0, none⟩), x.val] w fun e w' => e = .returned (.bool (b.fits x)) ∧ Below w.heap.size w w' := by
  have hb1 : Below w.heap.size w (w.alloc (.cells x.cs.toArray 65)) := (Below.refl _ _).alloc (Nat.le_refl _) _
  have hP1 := h.below hb1
  have hn := heap_alloc_new w (.cells x.cs.toArray 65)
  have hS : ∀ w2, Below (w.alloc (.cells x.cs.toArray 65)).heap.size (w.alloc (.cells x.cs.toArray 65)) w2 → w2.cell? ⟨gb, 0, none⟩ = some (.int .i64 b.mem) ∧ w2.cell? ⟨gb, 1, none⟩ = some (.int .i64 b.cur) ∧ (w2.cell? ⟨w.heap.size, 0, none⟩ = some (.int .i64 x.d.id) ∧ w2.cell? ⟨w.heap.size, 1, none⟩ = some (.int .i64 x.d.a) ∧ w2.cell? ⟨w.heap.size, 2, none⟩ = some (.int .i64 x.d.b) ∧ w2.cell? ⟨w.heap.size, 3, none⟩ = some (.int .i64 x.d.sc) ∧ w2.cell? ⟨w.heap.size, 4, none⟩ = some (.int .i64 x.d.bc) ∧ w2.cell? ⟨w.heap.size, 5, none⟩ = some (.int .i64 x.d.s) ∧ w2.cell? ⟨w.heap.size, 6, none⟩ = some (.int .i64 x.d.t)) ∧ w2.cell? ⟨w.heap.size, 7, none⟩ = some (.int .i64 x.st) ∧ w2.cell? ⟨w.heap.size, 8, none⟩ = some (.int .i64 x.ask) ∧ w2.cell? ⟨w.heap.size, 9, none⟩ = some (.int .i64 x.nth) := fun w2 hb => by
    have h2 := (hb.block w.heap.size (by simp)).trans hn
    have h3 := pb_head ⟨v, mb, D, hP1.below hb⟩
    exact ⟨h3.1, h3.2.1, ⟨obj_cell h2 rfl, obj_cell h2 rfl, obj_cell h2 rfl, obj_cell h2 rfl, obj_cell h2 rfl, obj_cell h2 rfl, obj_cell h2 rfl⟩, obj_cell h2 rfl, obj_cell h2 rfl, obj_cell h2 rfl⟩
  have hmay := fun w2 => mayBe_any x.d b.mem b.cur w2
  have hst := fun w2 => mayStand_any x w2
  have em : b.fits x = (mayB x.d b.mem b.cur && (atL b.l x.d.id).isNone && x.may) := rfl
  obtain ⟨hlt, -⟩ := atL_some ha
  obtain ⟨g, hg⟩ := h.has hlt
  have hfn : ∀ w2, PBv P w2 gb b v mb D → Calls Tryd.prog 46 #[.pointer (some ⟨gb, 0, none⟩), .int .i64 x.d.id] w2 fun e w' => e = .returned (.pointer (some ⟨g, i * 10, none⟩)) ∧ w2 = w' := fun w2 h2 => h2.find_some hid ha hg hlen
  rw [ha] at em
  rw [q1] at em hmay
  clear h
  replace hS := Lib.hid hS
  replace hP1 := Lib.hid hP1
  replace hb1 := Lib.hid hb1
  replace hn := Lib.hid hn
  replace hid := Lib.hid hid
  replace hfn := Lib.hid hfn
  obtain ⟨R, hR⟩ : ∃ R, R = b.fits x := ⟨_, rfl⟩
  rw [← hR] at em ⊢
  replace hR := Lib.hid hR
  replace em : R = false := em
  replace em := Lib.hid em
  clear q1
  unfold En.val at *
  unfold Dl.val at hmay
  unfold En.cs at *
  go_enter Tryd.func39, Tryd.ntmps39
  go_wp2_with fail
  generalize w.alloc _ = W at *
  refine wp_region_closed (by kernel_rfl) (fun L az wz => ∃ v4 v5 v6 v7 v8 v9 v10 v11 v12 v13 v14 v15 v16 v17 v18 v19 v20 v21 v22 v23 v24 v25 v26 v27 : Value, az = ({ tmps := (Value.pointer (some ⟨gb, 0, none⟩) :: Value.agg #[Value.int IntKind.i64 x.d.id, Value.int IntKind.i64 x.d.a, Value.int IntKind.i64 x.d.b, Value.int IntKind.i64 x.d.sc, Value.int IntKind.i64 x.d.bc, Value.int IntKind.i64 x.d.s, Value.int IntKind.i64 x.d.t, Value.int IntKind.i64 x.st, Value.int IntKind.i64 x.ask, Value.int IntKind.i64 x.nth] :: undef :: Value.pointer (some ⟨w.heap.size, 0, none⟩) :: v4 :: v5 :: v6 :: v7 :: v8 :: v9 :: v10 :: v11 :: v12 :: v13 :: v14 :: v15 :: v16 :: v17 :: v18 :: v19 :: v20 :: v21 :: v22 :: v23 :: v24 :: v25 :: v26 :: v27 :: []).toArray, defers := [] } : Act) ∧ (Below W.heap.size W wz) ∧ (L 0 = true → v5 = Value.pointer (some ⟨w.heap.size, 0, none⟩)) ∧ (L 1 = true → v6 = Value.agg #[Value.int IntKind.i64 x.d.id, Value.int IntKind.i64 x.d.a, Value.int IntKind.i64 x.d.b, Value.int IntKind.i64 x.d.sc, Value.int IntKind.i64 x.d.bc, Value.int IntKind.i64 x.d.s, Value.int IntKind.i64 x.d.t]) ∧ (L 2 = true → v7 = Value.pointer (some ⟨gb, 0, none⟩)) ∧ (L 3 = true → v8 = Value.pointer (some ⟨gb, 0, none⟩)) ∧ (L 4 = true → v9 = Value.pointer (some ⟨gb, 0, none⟩)) ∧ (L 5 = true → v10 = Value.int IntKind.i64 b.mem) ∧ (L 6 = true → v11 = Value.pointer (some ⟨gb, 0, none⟩)) ∧ (L 7 = true → v12 = Value.pointer (some ⟨gb, 0, none⟩)) ∧ (L 8 = true → v13 = Value.pointer (some ⟨gb, 1, none⟩)) ∧ (L 9 = true → v14 = Value.int IntKind.i64 b.cur) ∧ (L 10 = true → v15 = Value.bool true) ∧ (L 11 = true → v16 = Value.bool true) ∧ (L 12 = true → v17 = Value.pointer (some ⟨gb, 0, none⟩)) ∧ (L 13 = true → v18 = Value.pointer (some ⟨w.heap.size, 0, none⟩)) ∧ (L 14 = true → v19 = Value.pointer (some ⟨w.heap.size, 0, none⟩)) ∧ (L 15 = true → v20 = Value.int IntKind.i64 x.d.id) ∧ (L 16 = true → v21 = Value.pointer (some ⟨g, i * 10, none⟩)) ∧ (L 17 = true → v22 = Value.bool false) ∧ (L 18 = true → v23 = Value.bool false) ∧ (L 19 = true → v24 = Value.bool false) ∧ (L 20 = true → v25 = undef) ∧ (L 21 = true → v26 = undef) ∧ (L 22 = true → v27 = Value.bool false) ∧ (L 23 = true → v4 = Value.bool false)) (by kernel_rfl) ?_ ?_ ?_
  · exact ⟨_, _, _, _, _, _, _, _, _, _, _, _, _, _, _, _, _, _, _, _, _, _, _, _, rfl, (Below.refl _ _).drew, nofun, nofun, nofun, nofun, nofun, nofun, nofun, nofun, nofun, nofun, nofun, nofun, nofun, nofun, nofun, nofun, nofun, nofun, nofun, nofun, nofun, nofun, nofun, nofun⟩
  · intro L az wz iz hiz hni hI hdep hcl
    obtain ⟨v4, v5, v6, v7, v8, v9, v10, v11, v12, v13, v14, v15, v16, v17, v18, v19, v20, v21, v22, v23, v24, v25, v26, v27, rfl, hW, h0, h1, h2, h3, h4, h5, h6, h7, h8, h9, h10, h11, h12, h13, h14, h15, h16, h17, h18, h19, h20, h21, h22, h23⟩ := hI
    have hcase : iz = 0 ∨ iz = 1 ∨ iz = 2 ∨ iz = 3 ∨ iz = 4 ∨ iz = 5 ∨ iz = 6 ∨ iz = 7 ∨ iz = 8 ∨ iz = 9 ∨ iz = 10 ∨ iz = 11 ∨ iz = 12 ∨ iz = 13 ∨ iz = 14 ∨ iz = 15 ∨ iz = 16 ∨ iz = 17 ∨ iz = 18 ∨ iz = 19 ∨ iz = 20 ∨ iz = 21 ∨ iz = 22 ∨ iz = 23 := by
      have hi2 : iz < 24 := hiz
      omega
    rcases hcase with rfl | rfl | rfl | rfl | rfl | rfl | rfl | rfl | rfl | rfl | rfl | rfl | rfl | rfl | rfl | rfl | rfl | rfl | rfl | rfl | rfl | rfl | rfl | rfl
    · -- 0
      refine wpOp_step rfl fun Kz hKz => ?_
      go_simp
      exact hKz _ _ ⟨_, _, _, _, _, _, _, _, _, _, _, _, _, _, _, _, _, _, _, _, _, _, _, _, rfl, hW, fun _ => rfl, fun e => h1 (add_ne e (by decide)), fun e => h2 (add_ne e (by decide)), fun e => h3 (add_ne e (by decide)), fun e => h4 (add_ne e (by decide)), fun e => h5 (add_ne e (by decide)), fun e => h6 (add_ne e (by decide)), fun e => h7 (add_ne e (by decide)), fun e => h8 (add_ne e (by decide)), fun e => h9 (add_ne e (by decide)), fun e => h10 (add_ne e (by decide)), fun e => h11 (add_ne e (by decide)), fun e => h12 (add_ne e (by decide)), fun e => h13 (add_ne e (by decide)), fun e => h14 (add_ne e (by decide)), fun e => h15 (add_ne e (by decide)), fun e => h16 (add_ne e (by decide)), fun e => h17 (add_ne e (by decide)), fun e => h18 (add_ne e (by decide)), fun e => h19 (add_ne e (by decide)), fun e => h20 (add_ne e (by decide)), fun e => h21 (add_ne e (by decide)), fun e => h22 (add_ne e (by decide)), fun e => h23 (add_ne e (by decide))⟩
    · -- 1
      have e0 := h0 (hdep 0 (by decide +kernel))
      subst e0
      obtain ⟨k8, k9, ⟨k0, k1, k2, k3, k4, k5, k6⟩, k7, k10, k11⟩ := hS.out wz hW
      refine wpOp_step rfl fun Kz hKz => ?_
      go_simp
      exact hKz _ _ ⟨_, _, _, _, _, _, _, _, _, _, _, _, _, _, _, _, _, _, _, _, _, _, _, _, rfl, hW, fun e => h0 (add_ne e (by decide)), fun _ => rfl, fun e => h2 (add_ne e (by decide)), fun e => h3 (add_ne e (by decide)), fun e => h4 (add_ne e (by decide)), fun e => h5 (add_ne e (by decide)), fun e => h6 (add_ne e (by decide)), fun e => h7 (add_ne e (by decide)), fun e => h8 (add_ne e (by decide)), fun e => h9 (add_ne e (by decide)), fun e => h10 (add_ne e (by decide)), fun e => h11 (add_ne e (by decide)), fun e => h12 (add_ne e (by decide)), fun e => h13 (add_ne e (by decide)), fun e => h14 (add_ne e (by decide)), fun e => h15 (add_ne e (by decide)), fun e => h16 (add_ne e (by decide)), fun e => h17 (add_ne e (by decide)), fun e => h18 (add_ne e (by decide)), fun e => h19 (add_ne e (by decide)), fun e => h20 (add_ne e (by decide)), fun e => h21 (add_ne e (by decide)), fun e => h22 (add_ne e (by decide)), fun e => h23 (add_ne e (by decide))⟩
    · -- 2
      refine wpOp_step rfl fun Kz hKz => ?_
      go_simp
      exact hKz _ _ ⟨_, _, _, _, _, _, _, _, _, _, _, _, _, _, _, _, _, _, _, _, _, _, _, _, rfl, hW, fun e => h0 (add_ne e (by decide)), fun e => h1 (add_ne e (by decide)), fun _ => rfl, fun e => h3 (add_ne e (by decide)), fun e => h4 (add_ne e (by decide)), fun e => h5 (add_ne e (by decide)), fun e => h6 (add_ne e (by decide)), fun e => h7 (add_ne e (by decide)), fun e => h8 (add_ne e (by decide)), fun e => h9 (add_ne e (by decide)), fun e => h10 (add_ne e (by decide)), fun e => h11 (add_ne e (by decide)), fun e => h12 (add_ne e (by decide)), fun e => h13 (add_ne e (by decide)), fun e => h14 (add_ne e (by decide)), fun e => h15 (add_ne e (by decide)), fun e => h16 (add_ne e (by decide)), fun e => h17 (add_ne e (by decide)), fun e => h18 (add_ne e (by decide)), fun e => h19 (add_ne e (by decide)), fun e => h20 (add_ne e (by decide)), fun e => h21 (add_ne e (by decide)), fun e => h22 (add_ne e (by decide)), fun e => h23 (add_ne e (by decide))⟩
    · -- 3
      have e2 := h2 (hdep 2 (by decide +kernel))
      subst e2
      refine wpOp_step rfl fun Kz hKz => ?_
      go_simp
      exact hKz _ _ ⟨_, _, _, _, _, _, _, _, _, _, _, _, _, _, _, _, _, _, _, _, _, _, _, _, rfl, hW, fun e => h0 (add_ne e (by decide)), fun e => h1 (add_ne e (by decide)), fun e => h2 (add_ne e (by decide)), fun _ => rfl, fun e => h4 (add_ne e (by decide)), fun e => h5 (add_ne e (by decide)), fun e => h6 (add_ne e (by decide)), fun e => h7 (add_ne e (by decide)), fun e => h8 (add_ne e (by decide)), fun e => h9 (add_ne e (by decide)), fun e => h10 (add_ne e (by decide)), fun e => h11 (add_ne e (by decide)), fun e => h12 (add_ne e (by decide)), fun e => h13 (add_ne e (by decide)), fun e => h14 (add_ne e (by decide)), fun e => h15 (add_ne e (by decide)), fun e => h16 (add_ne e (by decide)), fun e => h17 (add_ne e (by decide)), fun e => h18 (add_ne e (by decide)), fun e => h19 (add_ne e (by decide)), fun e => h20 (add_ne e (by decide)), fun e => h21 (add_ne e (by decide)), fun e => h22 (add_ne e (by decide)), fun e => h23 (add_ne e (by decide))⟩
    · -- 4
      have e3 := h3 (hdep 3 (by decide +kernel))
      subst e3
      refine wpOp_step rfl fun Kz hKz => ?_
      go_simp
      exact hKz _ _ ⟨_, _, _, _, _, _, _, _, _, _, _, _, _, _, _, _, _, _, _, _, _, _, _, _, rfl, hW, fun e => h0 (add_ne e (by decide)), fun e => h1 (add_ne e (by decide)), fun e => h2 (add_ne e (by decide)), fun e => h3 (add_ne e (by decide)), fun _ => rfl, fun e => h5 (add_ne e (by decide)), fun e => h6 (add_ne e (by decide)), fun e => h7 (add_ne e (by decide)), fun e => h8 (add_ne e (by decide)), fun e => h9 (add_ne e (by decide)), fun e => h10 (add_ne e (by decide)), fun e => h11 (add_ne e (by decide)), fun e => h12 (add_ne e (by decide)), fun e => h13 (add_ne e (by decide)), fun e => h14 (add_ne e (by decide)), fun e => h15 (add_ne e (by decide)), fun e => h16 (add_ne e (by decide)), fun e => h17 (add_ne e (by decide)), fun e => h18 (add_ne e (by decide)), fun e => h19 (add_ne e (by decide)), fun e => h20 (add_ne e (by decide)), fun e => h21 (add_ne e (by decide)), fun e => h22 (add_ne e (by decide)), fun e => h23 (add_ne e (by decide))⟩
    · -- 5
      have e4 := h4 (hdep 4 (by decide +kernel))
      subst e4
      obtain ⟨k8, k9, ⟨k0, k1, k2, k3, k4, k5, k6⟩, k7, k10, k11⟩ := hS.out wz hW
      refine wpOp_step rfl fun Kz hKz => ?_
      go_simp
      exact hKz _ _ ⟨_, _, _, _, _, _, _, _, _, _, _, _, _, _, _, _, _, _, _, _, _, _, _, _, rfl, hW, fun e => h0 (add_ne e (by decide)), fun e => h1 (add_ne e (by decide)), fun e => h2 (add_ne e (by decide)), fun e => h3 (add_ne e (by decide)), fun e => h4 (add_ne e (by decide)), fun _ => rfl, fun e => h6 (add_ne e (by decide)), fun e => h7 (add_ne e (by decide)), fun e => h8 (add_ne e (by decide)), fun e => h9 (add_ne e (by decide)), fun e => h10 (add_ne e (by decide)), fun e => h11 (add_ne e (by decide)), fun e => h12 (add_ne e (by decide)), fun e => h13 (add_ne e (by decide)), fun e => h14 (add_ne e (by decide)), fun e => h15 (add_ne e (by decide)), fun e => h16 (add_ne e (by decide)), fun e => h17 (add_ne e (by decide)), fun e => h18 (add_ne e (by decide)), fun e => h19 (add_ne e (by decide)), fun e => h20 (add_ne e (by decide)), fun e => h21 (add_ne e (by decide)), fun e => h22 (add_ne e (by decide)), fun e => h23 (add_ne e (by decide))⟩
    · -- 6
      refine wpOp_step rfl fun Kz hKz => ?_
      go_simp
      exact hKz _ _ ⟨_, _, _, _, _, _, _, _, _, _, _, _, _, _, _, _, _, _, _, _, _, _, _, _, rfl, hW, fun e => h0 (add_ne e (by decide)), fun e => h1 (add_ne e (by decide)), fun e => h2 (add_ne e (by decide)), fun e => h3 (add_ne e (by decide)), fun e => h4 (add_ne e (by decide)), fun e => h5 (add_ne e (by decide)), fun _ => rfl, fun e => h7 (add_ne e (by decide)), fun e => h8 (add_ne e (by decide)), fun e => h9 (add_ne e (by decide)), fun e => h10 (add_ne e (by decide)), fun e => h11 (add_ne e (by decide)), fun e => h12 (add_ne e (by decide)), fun e => h13 (add_ne e (by decide)), fun e => h14 (add_ne e (by decide)), fun e => h15 (add_ne e (by decide)), fun e => h16 (add_ne e (by decide)), fun e => h17 (add_ne e (by decide)), fun e => h18 (add_ne e (by decide)), fun e => h19 (add_ne e (by decide)), fun e => h20 (add_ne e (by decide)), fun e => h21 (add_ne e (by decide)), fun e => h22 (add_ne e (by decide)), fun e => h23 (add_ne e (by decide))⟩
    · -- 7
      have e6 := h6 (hdep 6 (by decide +kernel))
      subst e6
      refine wpOp_step rfl fun Kz hKz => ?_
      go_simp
      exact hKz _ _ ⟨_, _, _, _, _, _, _, _, _, _, _, _, _, _, _, _, _, _, _, _, _, _, _, _, rfl, hW, fun e => h0 (add_ne e (by decide)), fun e => h1 (add_ne e (by decide)), fun e => h2 (add_ne e (by decide)), fun e => h3 (add_ne e (by decide)), fun e => h4 (add_ne e (by decide)), fun e => h5 (add_ne e (by decide)), fun e => h6 (add_ne e (by decide)), fun _ => rfl, fun e => h8 (add_ne e (by decide)), fun e => h9 (add_ne e (by decide)), fun e => h10 (add_ne e (by decide)), fun e => h11 (add_ne e (by decide)), fun e => h12 (add_ne e (by decide)), fun e => h13 (add_ne e (by decide)), fun e => h14 (add_ne e (by decide)), fun e => h15 (add_ne e (by decide)), fun e => h16 (add_ne e (by decide)), fun e => h17 (add_ne e (by decide)), fun e => h18 (add_ne e (by decide)), fun e => h19 (add_ne e (by decide)), fun e => h20 (add_ne e (by decide)), fun e => h21 (add_ne e (by decide)), fun e => h22 (add_ne e (by decide)), fun e => h23 (add_ne e (by decide))⟩
    · -- 8
      have e7 := h7 (hdep 7 (by decide +kernel))
      subst e7
      refine wpOp_step rfl fun Kz hKz => ?_
      go_simp
      exact hKz _ _ ⟨_, _, _, _, _, _, _, _, _, _, _, _, _, _, _, _, _, _, _, _, _, _, _, _, rfl, hW, fun e => h0 (add_ne e (by decide)), fun e => h1 (add_ne e (by decide)), fun e => h2 (add_ne e (by decide)), fun e => h3 (add_ne e (by decide)), fun e => h4 (add_ne e (by decide)), fun e => h5 (add_ne e (by decide)), fun e => h6 (add_ne e (by decide)), fun e => h7 (add_ne e (by decide)), fun _ => rfl, fun e => h9 (add_ne e (by decide)), fun e => h10 (add_ne e (by decide)), fun e => h11 (add_ne e (by decide)), fun e => h12 (add_ne e (by decide)), fun e => h13 (add_ne e (by decide)), fun e => h14 (add_ne e (by decide)), fun e => h15 (add_ne e (by decide)), fun e => h16 (add_ne e (by decide)), fun e => h17 (add_ne e (by decide)), fun e => h18 (add_ne e (by decide)), fun e => h19 (add_ne e (by decide)), fun e => h20 (add_ne e (by decide)), fun e => h21 (add_ne e (by decide)), fun e => h22 (add_ne e (by decide)), fun e => h23 (add_ne e (by decide))⟩
    · -- 9
      have e8 := h8 (hdep 8 (by decide +kernel))
      subst e8
      obtain ⟨k8, k9, ⟨k0, k1, k2, k3, k4, k5, k6⟩, k7, k10, k11⟩ := hS.out wz hW
      refine wpOp_step rfl fun Kz hKz => ?_
      go_simp
      exact hKz _ _ ⟨_, _, _, _, _, _, _, _, _, _, _, _, _, _, _, _, _, _, _, _, _, _, _, _, rfl, hW, fun e => h0 (add_ne e (by decide)), fun e => h1 (add_ne e (by decide)), fun e => h2 (add_ne e (by decide)), fun e => h3 (add_ne e (by decide)), fun e => h4 (add_ne e (by decide)), fun e => h5 (add_ne e (by decide)), fun e => h6 (add_ne e (by decide)), fun e => h7 (add_ne e (by decide)), fun e => h8 (add_ne e (by decide)), fun _ => rfl, fun e => h10 (add_ne e (by decide)), fun e => h11 (add_ne e (by decide)), fun e => h12 (add_ne e (by decide)), fun e => h13 (add_ne e (by decide)), fun e => h14 (add_ne e (by decide)), fun e => h15 (add_ne e (by decide)), fun e => h16 (add_ne e (by decide)), fun e => h17 (add_ne e (by decide)), fun e => h18 (add_ne e (by decide)), fun e => h19 (add_ne e (by decide)), fun e => h20 (add_ne e (by decide)), fun e => h21 (add_ne e (by decide)), fun e => h22 (add_ne e (by decide)), fun e => h23 (add_ne e (by decide))⟩
    · -- 10
      have e1 := h1 (hdep 1 (by decide +kernel))
      subst e1
      have e5 := h5 (hdep 5 (by decide +kernel))
      subst e5
      have e9 := h9 (hdep 9 (by decide +kernel))
      subst e9
      refine wpOp_step rfl fun Kz hKz => ?_
      go_simp
      go_at_call 45
      refine (hmay _).mono ?_
      rintro e w1 ⟨rfl, hb2⟩
      go_simp
      exact hKz _ _ ⟨_, _, _, _, _, _, _, _, _, _, _, _, _, _, _, _, _, _, _, _, _, _, _, _, rfl, hW.trans (hb2.mono hW.size), fun e => h0 (add_ne e (by decide)), fun e => h1 (add_ne e (by decide)), fun e => h2 (add_ne e (by decide)), fun e => h3 (add_ne e (by decide)), fun e => h4 (add_ne e (by decide)), fun e => h5 (add_ne e (by decide)), fun e => h6 (add_ne e (by decide)), fun e => h7 (add_ne e (by decide)), fun e => h8 (add_ne e (by decide)), fun e => h9 (add_ne e (by decide)), fun _ => rfl, fun e => h11 (add_ne e (by decide)), fun e => h12 (add_ne e (by decide)), fun e => h13 (add_ne e (by decide)), fun e => h14 (add_ne e (by decide)), fun e => h15 (add_ne e (by decide)), fun e => h16 (add_ne e (by decide)), fun e => h17 (add_ne e (by decide)), fun e => h18 (add_ne e (by decide)), fun e => h19 (add_ne e (by decide)), fun e => h20 (add_ne e (by decide)), fun e => h21 (add_ne e (by decide)), fun e => h22 (add_ne e (by decide)), fun e => h23 (add_ne e (by decide))⟩
    · -- 11
      have e10 := h10 (hdep 10 (by decide +kernel))
      subst e10
      refine wpOp_step rfl fun Kz hKz => ?_
      go_simp
      exact hKz _ _ ⟨_, _, _, _, _, _, _, _, _, _, _, _, _, _, _, _, _, _, _, _, _, _, _, _, rfl, hW, fun e => h0 (add_ne e (by decide)), fun e => h1 (add_ne e (by decide)), fun e => h2 (add_ne e (by decide)), fun e => h3 (add_ne e (by decide)), fun e => h4 (add_ne e (by decide)), fun e => h5 (add_ne e (by decide)), fun e => h6 (add_ne e (by decide)), fun e => h7 (add_ne e (by decide)), fun e => h8 (add_ne e (by decide)), fun e => h9 (add_ne e (by decide)), fun e => h10 (add_ne e (by decide)), fun _ => rfl, fun e => h12 (add_ne e (by decide)), fun e => h13 (add_ne e (by decide)), fun e => h14 (add_ne e (by decide)), fun e => h15 (add_ne e (by decide)), fun e => h16 (add_ne e (by decide)), fun e => h17 (add_ne e (by decide)), fun e => h18 (add_ne e (by decide)), fun e => h19 (add_ne e (by decide)), fun e => h20 (add_ne e (by decide)), fun e => h21 (add_ne e (by decide)), fun e => h22 (add_ne e (by decide)), fun e => h23 (add_ne e (by decide))⟩
    · -- 12
      have e11 := h11 (hdep 11 (by decide +kernel))
      subst e11
      refine wpOp_step rfl fun Kz hKz => ?_
      go_simp
      exact hKz _ _ ⟨_, _, _, _, _, _, _, _, _, _, _, _, _, _, _, _, _, _, _, _, _, _, _, _, rfl, hW, fun e => h0 (add_ne e (by decide)), fun e => h1 (add_ne e (by decide)), fun e => h2 (add_ne e (by decide)), fun e => h3 (add_ne e (by decide)), fun e => h4 (add_ne e (by decide)), fun e => h5 (add_ne e (by decide)), fun e => h6 (add_ne e (by decide)), fun e => h7 (add_ne e (by decide)), fun e => h8 (add_ne e (by decide)), fun e => h9 (add_ne e (by decide)), fun e => h10 (add_ne e (by decide)), fun e => h11 (add_ne e (by decide)), fun _ => rfl, fun e => h13 (add_ne e (by decide)), fun e => h14 (add_ne e (by decide)), fun e => h15 (add_ne e (by decide)), fun e => h16 (add_ne e (by decide)), fun e => h17 (add_ne e (by decide)), fun e => h18 (add_ne e (by decide)), fun e => h19 (add_ne e (by decide)), fun e => h20 (add_ne e (by decide)), fun e => h21 (add_ne e (by decide)), fun e => h22 (add_ne e (by decide)), fun e => h23 (add_ne e (by decide))⟩
    · -- 13
      have e11 := h11 (hdep 11 (by decide +kernel))
      subst e11
      refine wpOp_step rfl fun Kz hKz => ?_
      go_simp
      exact hKz _ _ ⟨_, _, _, _, _, _, _, _, _, _, _, _, _, _, _, _, _, _, _, _, _, _, _, _, rfl, hW, fun e => h0 (add_ne e (by decide)), fun e => h1 (add_ne e (by decide)), fun e => h2 (add_ne e (by decide)), fun e => h3 (add_ne e (by decide)), fun e => h4 (add_ne e (by decide)), fun e => h5 (add_ne e (by decide)), fun e => h6 (add_ne e (by decide)), fun e => h7 (add_ne e (by decide)), fun e => h8 (add_ne e (by decide)), fun e => h9 (add_ne e (by decide)), fun e => h10 (add_ne e (by decide)), fun e => h11 (add_ne e (by decide)), fun e => h12 (add_ne e (by decide)), fun _ => rfl, fun e => h14 (add_ne e (by decide)), fun e => h15 (add_ne e (by decide)), fun e => h16 (add_ne e (by decide)), fun e => h17 (add_ne e (by decide)), fun e => h18 (add_ne e (by decide)), fun e => h19 (add_ne e (by decide)), fun e => h20 (add_ne e (by decide)), fun e => h21 (add_ne e (by decide)), fun e => h22 (add_ne e (by decide)), fun e => h23 (add_ne e (by decide))⟩
    · -- 14
      have e11 := h11 (hdep 11 (by decide +kernel))
      subst e11
      have e13 := h13 (hdep 13 (by decide +kernel))
      subst e13
      refine wpOp_step rfl fun Kz hKz => ?_
      go_simp
      exact hKz _ _ ⟨_, _, _, _, _, _, _, _, _, _, _, _, _, _, _, _, _, _, _, _, _, _, _, _, rfl, hW, fun e => h0 (add_ne e (by decide)), fun e => h1 (add_ne e (by decide)), fun e => h2 (add_ne e (by decide)), fun e => h3 (add_ne e (by decide)), fun e => h4 (add_ne e (by decide)), fun e => h5 (add_ne e (by decide)), fun e => h6 (add_ne e (by decide)), fun e => h7 (add_ne e (by decide)), fun e => h8 (add_ne e (by decide)), fun e => h9 (add_ne e (by decide)), fun e => h10 (add_ne e (by decide)), fun e => h11 (add_ne e (by decide)), fun e => h12 (add_ne e (by decide)), fun e => h13 (add_ne e (by decide)), fun _ => rfl, fun e => h15 (add_ne e (by decide)), fun e => h16 (add_ne e (by decide)), fun e => h17 (add_ne e (by decide)), fun e => h18 (add_ne e (by decide)), fun e => h19 (add_ne e (by decide)), fun e => h20 (add_ne e (by decide)), fun e => h21 (add_ne e (by decide)), fun e => h22 (add_ne e (by decide)), fun e => h23 (add_ne e (by decide))⟩
    · -- 15
      have e11 := h11 (hdep 11 (by decide +kernel))
      subst e11
      have e14 := h14 (hdep 14 (by decide +kernel))
      subst e14
      obtain ⟨k8, k9, ⟨k0, k1, k2, k3, k4, k5, k6⟩, k7, k10, k11⟩ := hS.out wz hW
      refine wpOp_step rfl fun Kz hKz => ?_
      go_simp
      exact hKz _ _ ⟨_, _, _, _, _, _, _, _, _, _, _, _, _, _, _, _, _, _, _, _, _, _, _, _, rfl, hW, fun e => h0 (add_ne e (by decide)), fun e => h1 (add_ne e (by decide)), fun e => h2 (add_ne e (by decide)), fun e => h3 (add_ne e (by decide)), fun e => h4 (add_ne e (by decide)), fun e => h5 (add_ne e (by decide)), fun e => h6 (add_ne e (by decide)), fun e => h7 (add_ne e (by decide)), fun e => h8 (add_ne e (by decide)), fun e => h9 (add_ne e (by decide)), fun e => h10 (add_ne e (by decide)), fun e => h11 (add_ne e (by decide)), fun e => h12 (add_ne e (by decide)), fun e => h13 (add_ne e (by decide)), fun e => h14 (add_ne e (by decide)), fun _ => rfl, fun e => h16 (add_ne e (by decide)), fun e => h17 (add_ne e (by decide)), fun e => h18 (add_ne e (by decide)), fun e => h19 (add_ne e (by decide)), fun e => h20 (add_ne e (by decide)), fun e => h21 (add_ne e (by decide)), fun e => h22 (add_ne e (by decide)), fun e => h23 (add_ne e (by decide))⟩
    · -- 16
      have e11 := h11 (hdep 11 (by decide +kernel))
      subst e11
      have e12 := h12 (hdep 12 (by decide +kernel))
      subst e12
      have e15 := h15 (hdep 15 (by decide +kernel))
      subst e15
      refine wpOp_step rfl fun Kz hKz => ?_
      go_simp
      go_at_call 46
      refine (hfn.out _ (hP1.out.below hW)).mono ?_
      rintro e w1 ⟨rfl, rfl⟩
      go_simp
      exact hKz _ _ ⟨_, _, _, _, _, _, _, _, _, _, _, _, _, _, _, _, _, _, _, _, _, _, _, _, rfl, hW, fun e => h0 (add_ne e (by decide)), fun e => h1 (add_ne e (by decide)), fun e => h2 (add_ne e (by decide)), fun e => h3 (add_ne e (by decide)), fun e => h4 (add_ne e (by decide)), fun e => h5 (add_ne e (by decide)), fun e => h6 (add_ne e (by decide)), fun e => h7 (add_ne e (by decide)), fun e => h8 (add_ne e (by decide)), fun e => h9 (add_ne e (by decide)), fun e => h10 (add_ne e (by decide)), fun e => h11 (add_ne e (by decide)), fun e => h12 (add_ne e (by decide)), fun e => h13 (add_ne e (by decide)), fun e => h14 (add_ne e (by decide)), fun e => h15 (add_ne e (by decide)), fun _ => rfl, fun e => h17 (add_ne e (by decide)), fun e => h18 (add_ne e (by decide)), fun e => h19 (add_ne e (by decide)), fun e => h20 (add_ne e (by decide)), fun e => h21 (add_ne e (by decide)), fun e => h22 (add_ne e (by decide)), fun e => h23 (add_ne e (by decide))⟩
    · -- 17
      have e11 := h11 (hdep 11 (by decide +kernel))
      subst e11
      have e16 := h16 (hdep 16 (by decide +kernel))
      subst e16
      refine wpOp_step rfl fun Kz hKz => ?_
      go_simp
      exact hKz _ _ ⟨_, _, _, _, _, _, _, _, _, _, _, _, _, _, _, _, _, _, _, _, _, _, _, _, rfl, hW, fun e => h0 (add_ne e (by decide)), fun e => h1 (add_ne e (by decide)), fun e => h2 (add_ne e (by decide)), fun e => h3 (add_ne e (by decide)), fun e => h4 (add_ne e (by decide)), fun e => h5 (add_ne e (by decide)), fun e => h6 (add_ne e (by decide)), fun e => h7 (add_ne e (by decide)), fun e => h8 (add_ne e (by decide)), fun e => h9 (add_ne e (by decide)), fun e => h10 (add_ne e (by decide)), fun e => h11 (add_ne e (by decide)), fun e => h12 (add_ne e (by decide)), fun e => h13 (add_ne e (by decide)), fun e => h14 (add_ne e (by decide)), fun e => h15 (add_ne e (by decide)), fun e => h16 (add_ne e (by decide)), fun _ => rfl, fun e => h18 (add_ne e (by decide)), fun e => h19 (add_ne e (by decide)), fun e => h20 (add_ne e (by decide)), fun e => h21 (add_ne e (by decide)), fun e => h22 (add_ne e (by decide)), fun e => h23 (add_ne e (by decide))⟩
    · -- 18
      have e11 := h11 (hdep 11 (by decide +kernel))
      subst e11
      have e17 := h17 (hdep 17 (by decide +kernel))
      subst e17
      refine wpOp_step rfl fun Kz hKz => ?_
      go_simp
      exact hKz _ _ ⟨_, _, _, _, _, _, _, _, _, _, _, _, _, _, _, _, _, _, _, _, _, _, _, _, rfl, hW, fun e => h0 (add_ne e (by decide)), fun e => h1 (add_ne e (by decide)), fun e => h2 (add_ne e (by decide)), fun e => h3 (add_ne e (by decide)), fun e => h4 (add_ne e (by decide)), fun e => h5 (add_ne e (by decide)), fun e => h6 (add_ne e (by decide)), fun e => h7 (add_ne e (by decide)), fun e => h8 (add_ne e (by decide)), fun e => h9 (add_ne e (by decide)), fun e => h10 (add_ne e (by decide)), fun e => h11 (add_ne e (by decide)), fun e => h12 (add_ne e (by decide)), fun e => h13 (add_ne e (by decide)), fun e => h14 (add_ne e (by decide)), fun e => h15 (add_ne e (by decide)), fun e => h16 (add_ne e (by decide)), fun e => h17 (add_ne e (by decide)), fun _ => rfl, fun e => h19 (add_ne e (by decide)), fun e => h20 (add_ne e (by decide)), fun e => h21 (add_ne e (by decide)), fun e => h22 (add_ne e (by decide)), fun e => h23 (add_ne e (by decide))⟩
    · -- 19
      have e18 := h18 (hdep 18 (by decide +kernel))
      subst e18
      refine wpOp_step rfl fun Kz hKz => ?_
      go_simp
      exact hKz _ _ ⟨_, _, _, _, _, _, _, _, _, _, _, _, _, _, _, _, _, _, _, _, _, _, _, _, rfl, hW, fun e => h0 (add_ne e (by decide)), fun e => h1 (add_ne e (by decide)), fun e => h2 (add_ne e (by decide)), fun e => h3 (add_ne e (by decide)), fun e => h4 (add_ne e (by decide)), fun e => h5 (add_ne e (by decide)), fun e => h6 (add_ne e (by decide)), fun e => h7 (add_ne e (by decide)), fun e => h8 (add_ne e (by decide)), fun e => h9 (add_ne e (by decide)), fun e => h10 (add_ne e (by decide)), fun e => h11 (add_ne e (by decide)), fun e => h12 (add_ne e (by decide)), fun e => h13 (add_ne e (by decide)), fun e => h14 (add_ne e (by decide)), fun e => h15 (add_ne e (by decide)), fun e => h16 (add_ne e (by decide)), fun e => h17 (add_ne e (by decide)), fun e => h18 (add_ne e (by decide)), fun _ => rfl, fun e => h20 (add_ne e (by decide)), fun e => h21 (add_ne e (by decide)), fun e => h22 (add_ne e (by decide)), fun e => h23 (add_ne e (by decide))⟩
    · -- 20
      have e19 := h19 (hdep 19 (by decide +kernel))
      subst e19
      refine wpOp_step rfl fun Kz hKz => ?_
      go_simp
      exact hKz _ _ ⟨_, _, _, _, _, _, _, _, _, _, _, _, _, _, _, _, _, _, _, _, _, _, _, _, rfl, hW, fun e => h0 (add_ne e (by decide)), fun e => h1 (add_ne e (by decide)), fun e => h2 (add_ne e (by decide)), fun e => h3 (add_ne e (by decide)), fun e => h4 (add_ne e (by decide)), fun e => h5 (add_ne e (by decide)), fun e => h6 (add_ne e (by decide)), fun e => h7 (add_ne e (by decide)), fun e => h8 (add_ne e (by decide)), fun e => h9 (add_ne e (by decide)), fun e => h10 (add_ne e (by decide)), fun e => h11 (add_ne e (by decide)), fun e => h12 (add_ne e (by decide)), fun e => h13 (add_ne e (by decide)), fun e => h14 (add_ne e (by decide)), fun e => h15 (add_ne e (by decide)), fun e => h16 (add_ne e (by decide)), fun e => h17 (add_ne e (by decide)), fun e => h18 (add_ne e (by decide)), fun e => h19 (add_ne e (by decide)), fun _ => rfl, fun e => h21 (add_ne e (by decide)), fun e => h22 (add_ne e (by decide)), fun e => h23 (add_ne e (by decide))⟩
    · -- 21
      have e19 := h19 (hdep 19 (by decide +kernel))
      subst e19
      have e20 := h20 (hdep 20 (by decide +kernel))
      subst e20
      refine wpOp_step rfl fun Kz hKz => ?_
      go_simp
      exact hKz _ _ ⟨_, _, _, _, _, _, _, _, _, _, _, _, _, _, _, _, _, _, _, _, _, _, _, _, rfl, hW, fun e => h0 (add_ne e (by decide)), fun e => h1 (add_ne e (by decide)), fun e => h2 (add_ne e (by decide)), fun e => h3 (add_ne e (by decide)), fun e => h4 (add_ne e (by decide)), fun e => h5 (add_ne e (by decide)), fun e => h6 (add_ne e (by decide)), fun e => h7 (add_ne e (by decide)), fun e => h8 (add_ne e (by decide)), fun e => h9 (add_ne e (by decide)), fun e => h10 (add_ne e (by decide)), fun e => h11 (add_ne e (by decide)), fun e => h12 (add_ne e (by decide)), fun e => h13 (add_ne e (by decide)), fun e => h14 (add_ne e (by decide)), fun e => h15 (add_ne e (by decide)), fun e => h16 (add_ne e (by decide)), fun e => h17 (add_ne e (by decide)), fun e => h18 (add_ne e (by decide)), fun e => h19 (add_ne e (by decide)), fun e => h20 (add_ne e (by decide)), fun _ => rfl, fun e => h22 (add_ne e (by decide)), fun e => h23 (add_ne e (by decide))⟩
    · -- 22
      have e19 := h19 (hdep 19 (by decide +kernel))
      subst e19
      have e21 := h21 (hdep 21 (by decide +kernel))
      subst e21
      refine wpOp_step rfl fun Kz hKz => ?_
      go_simp
      exact hKz _ _ ⟨_, _, _, _, _, _, _, _, _, _, _, _, _, _, _, _, _, _, _, _, _, _, _, _, rfl, hW, fun e => h0 (add_ne e (by decide)), fun e => h1 (add_ne e (by decide)), fun e => h2 (add_ne e (by decide)), fun e => h3 (add_ne e (by decide)), fun e => h4 (add_ne e (by decide)), fun e => h5 (add_ne e (by decide)), fun e => h6 (add_ne e (by decide)), fun e => h7 (add_ne e (by decide)), fun e => h8 (add_ne e (by decide)), fun e => h9 (add_ne e (by decide)), fun e => h10 (add_ne e (by decide)), fun e => h11 (add_ne e (by decide)), fun e => h12 (add_ne e (by decide)), fun e => h13 (add_ne e (by decide)), fun e => h14 (add_ne e (by decide)), fun e => h15 (add_ne e (by decide)), fun e => h16 (add_ne e (by decide)), fun e => h17 (add_ne e (by decide)), fun e => h18 (add_ne e (by decide)), fun e => h19 (add_ne e (by decide)), fun e => h20 (add_ne e (by decide)), fun e => h21 (add_ne e (by decide)), fun _ => rfl, fun e => h23 (add_ne e (by decide))⟩
    · -- 23
      have e22 := h22 (hdep 22 (by decide +kernel))
      subst e22
      refine wpOp_step rfl fun Kz hKz => ?_
      go_simp
      exact hKz _ _ ⟨_, _, _, _, _, _, _, _, _, _, _, _, _, _, _, _, _, _, _, _, _, _, _, _, rfl, hW, fun e => h0 (add_ne e (by decide)), fun e => h1 (add_ne e (by decide)), fun e => h2 (add_ne e (by decide)), fun e => h3 (add_ne e (by decide)), fun e => h4 (add_ne e (by decide)), fun e => h5 (add_ne e (by decide)), fun e => h6 (add_ne e (by decide)), fun e => h7 (add_ne e (by decide)), fun e => h8 (add_ne e (by decide)), fun e => h9 (add_ne e (by decide)), fun e => h10 (add_ne e (by decide)), fun e => h11 (add_ne e (by decide)), fun e => h12 (add_ne e (by decide)), fun e => h13 (add_ne e (by decide)), fun e => h14 (add_ne e (by decide)), fun e => h15 (add_ne e (by decide)), fun e => h16 (add_ne e (by decide)), fun e => h17 (add_ne e (by decide)), fun e => h18 (add_ne e (by decide)), fun e => h19 (add_ne e (by decide)), fun e => h20 (add_ne e (by decide)), fun e => h21 (add_ne e (by decide)), fun e => h22 (add_ne e (by decide)), fun _ => rfl⟩
  · intro L az wz hI hL
    obtain ⟨v4, v5, v6, v7, v8, v9, v10, v11, v12, v13, v14, v15, v16, v17, v18, v19, v20, v21, v22, v23, v24, v25, v26, v27, rfl, hW, h0, h1, h2, h3, h4, h5, h6, h7, h8, h9, h10, h11, h12, h13, h14, h15, h16, h17, h18, h19, h20, h21, h22, h23⟩ := hI
    have e23 := h23 (hL 23 (by decide))
    subst e23
    go_wp2_with fail
    go_ret
    exact ⟨by rw [em.out]; rfl, hb1.out.trans (hW.mono hb1.out.size)⟩
set_option maxHeartbeats 4000000 in
set_option maxRecDepth 100000 in
theorem fits_c (h : PBv P w gb b v mb D) (x : En) (hid : In64 x.d.id) (hlen : b.l.length ≤ 1000) (q1 : mayB x.d b.mem b.cur = true) (ha : atL b.l x.d.id = none) : Calls Tryd.prog 39 #[.pointer (some ⟨gb, 0, none⟩), x.val] w fun e w' => e = .returned (.bool (b.fits x)) ∧ Below w.heap.size w w' := by
  have hb1 : Below w.heap.size w (w.alloc (.cells x.cs.toArray 65)) := (Below.refl _ _).alloc (Nat.le_refl _) _
  have hP1 := h.below hb1
  have hn := heap_alloc_new w (.cells x.cs.toArray 65)
  have hS : ∀ w2, Below (w.alloc (.cells x.cs.toArray 65)).heap.size (w.alloc (.cells x.cs.toArray 65)) w2 → w2.cell? ⟨gb, 0, none⟩ = some (.int .i64 b.mem) ∧ w2.cell? ⟨gb, 1, none⟩ = some (.int .i64 b.cur) ∧ (w2.cell? ⟨w.heap.size, 0, none⟩ = some (.int .i64 x.d.id) ∧ w2.cell? ⟨w.heap.size, 1, none⟩ = some (.int .i64 x.d.a) ∧ w2.cell? ⟨w.heap.size, 2, none⟩ = some (.int .i64 x.d.b) ∧ w2.cell? ⟨w.heap.size, 3, none⟩ = some (.int .i64 x.d.sc) ∧ w2.cell? ⟨w.heap.size, 4, none⟩ = some (.int .i64 x.d.bc) ∧ w2.cell? ⟨w.heap.size, 5, none⟩ = some (.int .i64 x.d.s) ∧ w2.cell? ⟨w.heap.size, 6, none⟩ = some (.int .i64 x.d.t)) ∧ w2.cell? ⟨w.heap.size, 7, none⟩ = some (.int .i64 x.st) ∧ w2.cell? ⟨w.heap.size, 8, none⟩ = some (.int .i64 x.ask) ∧ w2.cell? ⟨w.heap.size, 9, none⟩ = some (.int .i64 x.nth) := fun w2 hb => by
    have h2 := (hb.block w.heap.size (by simp)).trans hn
    have h3 := pb_head ⟨v, mb, D, hP1.below hb⟩
    exact ⟨h3.1, h3.2.1, ⟨obj_cell h2 rfl, obj_cell h2 rfl, obj_cell h2 rfl, obj_cell h2 rfl, obj_cell h2 rfl, obj_cell h2 rfl, obj_cell h2 rfl⟩, obj_cell h2 rfl, obj_cell h2 rfl, obj_cell h2 rfl⟩
  have hmay := fun w2 => mayBe_any x.d b.mem b.cur w2
  have hst := fun w2 => mayStand_any x w2
  have em : b.fits x = (mayB x.d b.mem b.cur && (atL b.l x.d.id).isNone && x.may) := rfl
  have hfn : ∀ w2, PBv P w2 gb b v mb D → Calls Tryd.prog 46 #[.pointer (some ⟨gb, 0, none⟩), .int .i64 x.d.id] w2 fun e w' => e = .returned (.pointer none) ∧ w2 = w' := fun w2 h2 => h2.find_none hid ha
  rw [ha] at em
  rw [q1] at em hmay
  clear h
  replace hS := Lib.hid hS
  replace hP1 := Lib.hid hP1
  replace hb1 := Lib.hid hb1
  replace hn := Lib.hid hn
  replace hid := Lib.hid hid
  replace hfn := Lib.hid hfn
  obtain ⟨R, hR⟩ : ∃ R, R = b.fits x := ⟨_, rfl⟩
  rw [← hR] at em ⊢
  replace hR := Lib.hid hR
  replace em : R = x.may := em
  replace em := Lib.hid em
  clear q1
  unfold En.val at *
  unfold Dl.val at hmay
  unfold En.cs at *
  go_enter Tryd.func39, Tryd.ntmps39
  go_wp2_with fail
  generalize w.alloc _ = W at *
  refine wp_region_closed (by kernel_rfl) (fun L az wz => ∃ v4 v5 v6 v7 v8 v9 v10 v11 v12 v13 v14 v15 v16 v17 v18 v19 v20 v21 v22 v23 v24 v25 v26 v27 : Value, az = ({ tmps := (Value.pointer (some ⟨gb, 0, none⟩) :: Value.agg #[Value.int IntKind.i64 x.d.id, Value.int IntKind.i64 x.d.a, Value.int IntKind.i64 x.d.b, Value.int IntKind.i64 x.d.sc, Value.int IntKind.i64 x.d.bc, Value.int IntKind.i64 x.d.s, Value.int IntKind.i64 x.d.t, Value.int IntKind.i64 x.st, Value.int IntKind.i64 x.ask, Value.int IntKind.i64 x.nth] :: undef :: Value.pointer (some ⟨w.heap.size, 0, none⟩) :: v4 :: v5 :: v6 :: v7 :: v8 :: v9 :: v10 :: v11 :: v12 :: v13 :: v14 :: v15 :: v16 :: v17 :: v18 :: v19 :: v20 :: v21 :: v22 :: v23 :: v24 :: v25 :: v26 :: v27 :: []).toArray, defers := [] } : Act) ∧ (Below W.heap.size W wz) ∧ (L 0 = true → v5 = Value.pointer (some ⟨w.heap.size, 0, none⟩)) ∧ (L 1 = true → v6 = Value.agg #[Value.int IntKind.i64 x.d.id, Value.int IntKind.i64 x.d.a, Value.int IntKind.i64 x.d.b, Value.int IntKind.i64 x.d.sc, Value.int IntKind.i64 x.d.bc, Value.int IntKind.i64 x.d.s, Value.int IntKind.i64 x.d.t]) ∧ (L 2 = true → v7 = Value.pointer (some ⟨gb, 0, none⟩)) ∧ (L 3 = true → v8 = Value.pointer (some ⟨gb, 0, none⟩)) ∧ (L 4 = true → v9 = Value.pointer (some ⟨gb, 0, none⟩)) ∧ (L 5 = true → v10 = Value.int IntKind.i64 b.mem) ∧ (L 6 = true → v11 = Value.pointer (some ⟨gb, 0, none⟩)) ∧ (L 7 = true → v12 = Value.pointer (some ⟨gb, 0, none⟩)) ∧ (L 8 = true → v13 = Value.pointer (some ⟨gb, 1, none⟩)) ∧ (L 9 = true → v14 = Value.int IntKind.i64 b.cur) ∧ (L 10 = true → v15 = Value.bool true) ∧ (L 11 = true → v16 = Value.bool true) ∧ (L 12 = true → v17 = Value.pointer (some ⟨gb, 0, none⟩)) ∧ (L 13 = true → v18 = Value.pointer (some ⟨w.heap.size, 0, none⟩)) ∧ (L 14 = true → v19 = Value.pointer (some ⟨w.heap.size, 0, none⟩)) ∧ (L 15 = true → v20 = Value.int IntKind.i64 x.d.id) ∧ (L 16 = true → v21 = Value.pointer none) ∧ (L 17 = true → v22 = Value.bool true) ∧ (L 18 = true → v23 = Value.bool true) ∧ (L 19 = true → v24 = Value.bool true) ∧ (L 20 = true → v25 = Value.agg #[Value.int IntKind.i64 x.d.id, Value.int IntKind.i64 x.d.a, Value.int IntKind.i64 x.d.b, Value.int IntKind.i64 x.d.sc, Value.int IntKind.i64 x.d.bc, Value.int IntKind.i64 x.d.s, Value.int IntKind.i64 x.d.t, Value.int IntKind.i64 x.st, Value.int IntKind.i64 x.ask, Value.int IntKind.i64 x.nth]) ∧ (L 21 = true → v26 = Value.bool x.may) ∧ (L 22 = true → v27 = Value.bool x.may) ∧ (L 23 = true → v4 = Value.bool x.may)) (by kernel_rfl) ?_ ?_ ?_
  · exact ⟨_, _, _, _, _, _, _, _, _, _, _, _, _, _, _, _, _, _, _, _, _, _, _, _, rfl, (Below.refl _ _).drew, nofun, nofun, nofun, nofun, nofun, nofun, nofun, nofun, nofun, nofun, nofun, nofun, nofun, nofun, nofun, nofun, nofun, nofun, nofun, nofun, nofun, nofun, nofun, nofun⟩
  · intro L az wz iz hiz hni hI hdep hcl
    obtain ⟨v4, v5, v6, v7, v8, v9, v10, v11, v12, v13, v14, v15, v16, v17, v18, v19, v20, v21, v22, v23, v24, v25, v26, v27, rfl, hW, h0, h1, h2, h3, h4, h5, h6, h7, h8, h9, h10, h11, h12, h13, h14, h15, h16, h17, h18, h19, h20, h21, h22, h23⟩ := hI
    have hcase : iz = 0 ∨ iz = 1 ∨ iz = 2 ∨ iz = 3 ∨ iz = 4 ∨ iz = 5 ∨ iz = 6 ∨ iz = 7 ∨ iz = 8 ∨ iz = 9 ∨ iz = 10 ∨ iz = 11 ∨ iz = 12 ∨ iz = 13 ∨ iz = 14 ∨ iz = 15 ∨ iz = 16 ∨ iz = 17 ∨ iz = 18 ∨ iz = 19 ∨ iz = 20 ∨ iz = 21 ∨ iz = 22 ∨ iz = 23 := by
      have hi2 : iz < 24 := hiz
      omega
    rcases hcase with rfl | rfl | rfl | rfl | rfl | rfl | rfl | rfl | rfl | rfl | rfl | rfl | rfl | rfl | rfl | rfl | rfl | rfl | rfl | rfl | rfl | rfl | rfl | rfl
    · -- 0
      refine wpOp_step rfl fun Kz hKz => ?_
      go_simp
      exact hKz _ _ ⟨_, _, _, _, _, _, _, _, _, _, _, _, _, _, _, _, _, _, _, _, _, _, _, _, rfl, hW, fun _ => rfl, fun e => h1 (add_ne e (by decide)), fun e => h2 (add_ne e (by decide)), fun e => h3 (add_ne e (by decide)), fun e => h4 (add_ne e (by decide)), fun e => h5 (add_ne e (by decide)), fun e => h6 (add_ne e (by decide)), fun e => h7 (add_ne e (by decide)), fun e => h8 (add_ne e (by decide)), fun e => h9 (add_ne e (by decide)), fun e => h10 (add_ne e (by decide)), fun e => h11 (add_ne e (by decide)), fun e => h12 (add_ne e (by decide)), fun e => h13 (add_ne e (by decide)), fun e => h14 (add_ne e (by decide)), fun e => h15 (add_ne e (by decide)), fun e => h16 (add_ne e (by decide)), fun e => h17 (add_ne e (by decide)), fun e => h18 (add_ne e (by decide)), fun e => h19 (add_ne e (by decide)), fun e => h20 (add_ne e (by decide)), fun e => h21 (add_ne e (by decide)), fun e => h22 (add_ne e (by decide)), fun e => h23 (add_ne e (by decide))⟩
    · -- 1
      have e0 := h0 (hdep 0 (by decide +kernel))
      subst e0
      obtain ⟨k8, k9, ⟨k0, k1, k2, k3, k4, k5, k6⟩, k7, k10, k11⟩ := hS.out wz hW
      refine wpOp_step rfl fun Kz hKz => ?_
      go_simp
      exact hKz _ _ ⟨_, _, _, _, _, _, _, _, _, _, _, _, _, _, _, _, _, _, _, _, _, _, _, _, rfl, hW, fun e => h0 (add_ne e (by decide)), fun _ => rfl, fun e => h2 (add_ne e (by decide)), fun e => h3 (add_ne e (by decide)), fun e => h4 (add_ne e (by decide)), fun e => h5 (add_ne e (by decide)), fun e => h6 (add_ne e (by decide)), fun e => h7 (add_ne e (by decide)), fun e => h8 (add_ne e (by decide)), fun e => h9 (add_ne e (by decide)), fun e => h10 (add_ne e (by decide)), fun e => h11 (add_ne e (by decide)), fun e => h12 (add_ne e (by decide)), fun e => h13 (add_ne e (by decide)), fun e => h14 (add_ne e (by decide)), fun e => h15 (add_ne e (by decide)), fun e => h16 (add_ne e (by decide)), fun e => h17 (add_ne e (by decide)), fun e => h18 (add_ne e (by decide)), fun e => h19 (add_ne e (by decide)), fun e => h20 (add_ne e (by decide)), fun e => h21 (add_ne e (by decide)), fun e => h22 (add_ne e (by decide)), fun e => h23 (add_ne e (by decide))⟩
    · -- 2
      refine wpOp_step rfl fun Kz hKz => ?_
      go_simp
      exact hKz _ _ ⟨_, _, _, _, _, _, _, _, _, _, _, _, _, _, _, _, _, _, _, _, _, _, _, _, rfl, hW, fun e => h0 (add_ne e (by decide)), fun e => h1 (add_ne e (by decide)), fun _ => rfl, fun e => h3 (add_ne e (by decide)), fun e => h4 (add_ne e (by decide)), fun e => h5 (add_ne e (by decide)), fun e => h6 (add_ne e (by decide)), fun e => h7 (add_ne e (by decide)), fun e => h8 (add_ne e (by decide)), fun e => h9 (add_ne e (by decide)), fun e => h10 (add_ne e (by decide)), fun e => h11 (add_ne e (by decide)), fun e => h12 (add_ne e (by decide)), fun e => h13 (add_ne e (by decide)), fun e => h14 (add_ne e (by decide)), fun e => h15 (add_ne e (by decide)), fun e => h16 (add_ne e (by decide)), fun e => h17 (add_ne e (by decide)), fun e => h18 (add_ne e (by decide)), fun e => h19 (add_ne e (by decide)), fun e => h20 (add_ne e (by decide)), fun e => h21 (add_ne e (by decide)), fun e => h22 (add_ne e (by decide)), fun e => h23 (add_ne e (by decide))⟩
    · -- 3
      have e2 := h2 (hdep 2 (by decide +kernel))
      subst e2
      refine wpOp_step rfl fun Kz hKz => ?_
      go_simp
      exact hKz _ _ ⟨_, _, _, _, _, _, _, _, _, _, _, _, _, _, _, _, _, _, _, _, _, _, _, _, rfl, hW, fun e => h0 (add_ne e (by decide)), fun e => h1 (add_ne e (by decide)), fun e => h2 (add_ne e (by decide)), fun _ => rfl, fun e => h4 (add_ne e (by decide)), fun e => h5 (add_ne e (by decide)), fun e => h6 (add_ne e (by decide)), fun e => h7 (add_ne e (by decide)), fun e => h8 (add_ne e (by decide)), fun e => h9 (add_ne e (by decide)), fun e => h10 (add_ne e (by decide)), fun e => h11 (add_ne e (by decide)), fun e => h12 (add_ne e (by decide)), fun e => h13 (add_ne e (by decide)), fun e => h14 (add_ne e (by decide)), fun e => h15 (add_ne e (by decide)), fun e => h16 (add_ne e (by decide)), fun e => h17 (add_ne e (by decide)), fun e => h18 (add_ne e (by decide)), fun e => h19 (add_ne e (by decide)), fun e => h20 (add_ne e (by decide)), fun e => h21 (add_ne e (by decide)), fun e => h22 (add_ne e (by decide)), fun e => h23 (add_ne e (by decide))⟩
    · -- 4
      have e3 := h3 (hdep 3 (by decide +kernel))
      subst e3
      refine wpOp_step rfl fun Kz hKz => ?_
      go_simp
      exact hKz _ _ ⟨_, _, _, _, _, _, _, _, _, _, _, _, _, _, _, _, _, _, _, _, _, _, _, _, rfl, hW, fun e => h0 (add_ne e (by decide)), fun e => h1 (add_ne e (by decide)), fun e => h2 (add_ne e (by decide)), fun e => h3 (add_ne e (by decide)), fun _ => rfl, fun e => h5 (add_ne e (by decide)), fun e => h6 (add_ne e (by decide)), fun e => h7 (add_ne e (by decide)), fun e => h8 (add_ne e (by decide)), fun e => h9 (add_ne e (by decide)), fun e => h10 (add_ne e (by decide)), fun e => h11 (add_ne e (by decide)), fun e => h12 (add_ne e (by decide)), fun e => h13 (add_ne e (by decide)), fun e => h14 (add_ne e (by decide)), fun e => h15 (add_ne e (by decide)), fun e => h16 (add_ne e (by decide)), fun e => h17 (add_ne e (by decide)), fun e => h18 (add_ne e (by decide)), fun e => h19 (add_ne e (by decide)), fun e => h20 (add_ne e (by decide)), fun e => h21 (add_ne e (by decide)), fun e => h22 (add_ne e (by decide)), fun e => h23 (add_ne e (by decide))⟩
    · -- 5
      have e4 := h4 (hdep 4 (by decide +kernel))
      subst e4
      obtain ⟨k8, k9, ⟨k0, k1, k2, k3, k4, k5, k6⟩, k7, k10, k11⟩ := hS.out wz hW
      refine wpOp_step rfl fun Kz hKz => ?_
      go_simp
      exact hKz _ _ ⟨_, _, _, _, _, _, _, _, _, _, _, _, _, _, _, _, _, _, _, _, _, _, _, _, rfl, hW, fun e => h0 (add_ne e (by decide)), fun e => h1 (add_ne e (by decide)), fun e => h2 (add_ne e (by decide)), fun e => h3 (add_ne e (by decide)), fun e => h4 (add_ne e (by decide)), fun _ => rfl, fun e => h6 (add_ne e (by decide)), fun e => h7 (add_ne e (by decide)), fun e => h8 (add_ne e (by decide)), fun e => h9 (add_ne e (by decide)), fun e => h10 (add_ne e (by decide)), fun e => h11 (add_ne e (by decide)), fun e => h12 (add_ne e (by decide)), fun e => h13 (add_ne e (by decide)), fun e => h14 (add_ne e (by decide)), fun e => h15 (add_ne e (by decide)), fun e => h16 (add_ne e (by decide)), fun e => h17 (add_ne e (by decide)), fun e => h18 (add_ne e (by decide)), fun e => h19 (add_ne e (by decide)), fun e => h20 (add_ne e (by decide)), fun e => h21 (add_ne e (by decide)), fun e => h22 (add_ne e (by decide)), fun e => h23 (add_ne e (by decide))⟩
    · -- 6
      refine wpOp_step rfl fun Kz hKz => ?_
      go_simp
      exact hKz _ _ ⟨_, _, _, _, _, _, _, _, _, _, _, _, _, _, _, _, _, _, _, _, _, _, _, _, rfl, hW, fun e => h0 (add_ne e (by decide)), fun e => h1 (add_ne e (by decide)), fun e => h2 (add_ne e (by decide)), fun e => h3 (add_ne e (by decide)), fun e => h4 (add_ne e (by decide)), fun e => h5 (add_ne e (by decide)), fun _ => rfl, fun e => h7 (add_ne e (by decide)), fun e => h8 (add_ne e (by decide)), fun e => h9 (add_ne e (by decide)), fun e => h10 (add_ne e (by decide)), fun e => h11 (add_ne e (by decide)), fun e => h12 (add_ne e (by decide)), fun e => h13 (add_ne e (by decide)), fun e => h14 (add_ne e (by decide)), fun e => h15 (add_ne e (by decide)), fun e => h16 (add_ne e (by decide)), fun e => h17 (add_ne e (by decide)), fun e => h18 (add_ne e (by decide)), fun e => h19 (add_ne e (by decide)), fun e => h20 (add_ne e (by decide)), fun e => h21 (add_ne e (by decide)), fun e => h22 (add_ne e (by decide)), fun e => h23 (add_ne e (by decide))⟩
    · -- 7
      have e6 := h6 (hdep 6 (by decide +kernel))
      subst e6
      refine wpOp_step rfl fun Kz hKz => ?_
      go_simp
      exact hKz _ _ ⟨_, _, _, _, _, _, _, _, _, _, _, _, _, _, _, _, _, _, _, _, _, _, _, _, rfl, hW, fun e => h0 (add_ne e (by decide)), fun e => h1 (add_ne e (by decide)), fun e => h2 (add_ne e (by decide)), fun e => h3 (add_ne e (by decide)), fun e => h4 (add_ne e (by decide)), fun e => h5 (add_ne e (by decide)), fun e => h6 (add_ne e (by decide)), fun _ => rfl, fun e => h8 (add_ne e (by decide)), fun e => h9 (add_ne e (by decide)), fun e => h10 (add_ne e (by decide)), fun e => h11 (add_ne e (by decide)), fun e => h12 (add_ne e (by decide)), fun e => h13 (add_ne e (by decide)), fun e => h14 (add_ne e (by decide)), fun e => h15 (add_ne e (by decide)), fun e => h16 (add_ne e (by decide)), fun e => h17 (add_ne e (by decide)), fun e => h18 (add_ne e (by decide)), fun e => h19 (add_ne e (by decide)), fun e => h20 (add_ne e (by decide)), fun e => h21 (add_ne e (by decide)), fun e => h22 (add_ne e (by decide)), fun e => h23 (add_ne e (by decide))⟩
    · -- 8
      have e7 := h7 (hdep 7 (by decide +kernel))
      subst e7
      refine wpOp_step rfl fun Kz hKz => ?_
      go_simp
      exact hKz _ _ ⟨_, _, _, _, _, _, _, _, _, _, _, _, _, _, _, _, _, _, _, _, _, _, _, _, rfl, hW, fun e => h0 (add_ne e (by decide)), fun e => h1 (add_ne e (by decide)), fun e => h2 (add_ne e (by decide)), fun e => h3 (add_ne e (by decide)), fun e => h4 (add_ne e (by decide)), fun e => h5 (add_ne e (by decide)), fun e => h6 (add_ne e (by decide)), fun e => h7 (add_ne e (by decide)), fun _ => rfl, fun e => h9 (add_ne e (by decide)), fun e => h10 (add_ne e (by decide)), fun e => h11 (add_ne e (by decide)), fun e => h12 (add_ne e (by decide)), fun e => h13 (add_ne e (by decide)), fun e => h14 (add_ne e (by decide)), fun e => h15 (add_ne e (by decide)), fun e => h16 (add_ne e (by decide)), fun e => h17 (add_ne e (by decide)), fun e => h18 (add_ne e (by decide)), fun e => h19 (add_ne e (by decide)), fun e => h20 (add_ne e (by decide)), fun e => h21 (add_ne e (by decide)), fun e => h22 (add_ne e (by decide)), fun e => h23 (add_ne e (by decide))⟩
    · -- 9
      have e8 := h8 (hdep 8 (by decide +kernel))
      subst e8
      obtain ⟨k8, k9, ⟨k0, k1, k2, k3, k4, k5, k6⟩, k7, k10, k11⟩ := hS.out wz hW
      refine wpOp_step rfl fun Kz hKz => ?_
      go_simp
      exact hKz _ _ ⟨_, _, _, _, _, _, _, _, _, _, _, _, _, _, _, _, _, _, _, _, _, _, _, _, rfl, hW, fun e => h0 (add_ne e (by decide)), fun e => h1 (add_ne e (by decide)), fun e => h2 (add_ne e (by decide)), fun e => h3 (add_ne e (by decide)), fun e => h4 (add_ne e (by decide)), fun e => h5 (add_ne e (by decide)), fun e => h6 (add_ne e (by decide)), fun e => h7 (add_ne e (by decide)), fun e => h8 (add_ne e (by decide)), fun _ => rfl, fun e => h10 (add_ne e (by decide)), fun e => h11 (add_ne e (by decide)), fun e => h12 (add_ne e (by decide)), fun e => h13 (add_ne e (by decide)), fun e => h14 (add_ne e (by decide)), fun e => h15 (add_ne e (by decide)), fun e => h16 (add_ne e (by decide)), fun e => h17 (add_ne e (by decide)), fun e => h18 (add_ne e (by decide)), fun e => h19 (add_ne e (by decide)), fun e => h20 (add_ne e (by decide)), fun e => h21 (add_ne e (by decide)), fun e => h22 (add_ne e (by decide)), fun e => h23 (add_ne e (by decide))⟩
    · -- 10
      have e1 := h1 (hdep 1 (by decide +kernel))
      subst e1
      have e5 := h5 (hdep 5 (by decide +kernel))
      subst e5
      have e9 := h9 (hdep 9 (by decide +kernel))
      subst e9
      refine wpOp_step rfl fun Kz hKz => ?_
      go_simp
      go_at_call 45
      refine (hmay _).mono ?_
      rintro e w1 ⟨rfl, hb2⟩
      go_simp
      exact hKz _ _ ⟨_, _, _, _, _, _, _, _, _, _, _, _, _, _, _, _, _, _, _, _, _, _, _, _, rfl, hW.trans (hb2.mono hW.size), fun e => h0 (add_ne e (by decide)), fun e => h1 (add_ne e (by decide)), fun e => h2 (add_ne e (by decide)), fun e => h3 (add_ne e (by decide)), fun e => h4 (add_ne e (by decide)), fun e => h5 (add_ne e (by decide)), fun e => h6 (add_ne e (by decide)), fun e => h7 (add_ne e (by decide)), fun e => h8 (add_ne e (by decide)), fun e => h9 (add_ne e (by decide)), fun _ => rfl, fun e => h11 (add_ne e (by decide)), fun e => h12 (add_ne e (by decide)), fun e => h13 (add_ne e (by decide)), fun e => h14 (add_ne e (by decide)), fun e => h15 (add_ne e (by decide)), fun e => h16 (add_ne e (by decide)), fun e => h17 (add_ne e (by decide)), fun e => h18 (add_ne e (by decide)), fun e => h19 (add_ne e (by decide)), fun e => h20 (add_ne e (by decide)), fun e => h21 (add_ne e (by decide)), fun e => h22 (add_ne e (by decide)), fun e => h23 (add_ne e (by decide))⟩
    · -- 11
      have e10 := h10 (hdep 10 (by decide +kernel))
      subst e10
      refine wpOp_step rfl fun Kz hKz => ?_
      go_simp
      exact hKz _ _ ⟨_, _, _, _, _, _, _, _, _, _, _, _, _, _, _, _, _, _, _, _, _, _, _, _, rfl, hW, fun e => h0 (add_ne e (by decide)), fun e => h1 (add_ne e (by decide)), fun e => h2 (add_ne e (by decide)), fun e => h3 (add_ne e (by decide)), fun e => h4 (add_ne e (by decide)), fun e => h5 (add_ne e (by decide)), fun e => h6 (add_ne e (by decide)), fun e => h7 (add_ne e (by decide)), fun e => h8 (add_ne e (by decide)), fun e => h9 (add_ne e (by decide)), fun e => h10 (add_ne e (by decide)), fun _ => rfl, fun e => h12 (add_ne e (by decide)), fun e => h13 (add_ne e (by decide)), fun e => h14 (add_ne e (by decide)), fun e => h15 (add_ne e (by decide)), fun e => h16 (add_ne e (by decide)), fun e => h17 (add_ne e (by decide)), fun e => h18 (add_ne e (by decide)), fun e => h19 (add_ne e (by decide)), fun e => h20 (add_ne e (by decide)), fun e => h21 (add_ne e (by decide)), fun e => h22 (add_ne e (by decide)), fun e => h23 (add_ne e (by decide))⟩
    · -- 12
      have e11 := h11 (hdep 11 (by decide +kernel))
      subst e11
      refine wpOp_step rfl fun Kz hKz => ?_
      go_simp
      exact hKz _ _ ⟨_, _, _, _, _, _, _, _, _, _, _, _, _, _, _, _, _, _, _, _, _, _, _, _, rfl, hW, fun e => h0 (add_ne e (by decide)), fun e => h1 (add_ne e (by decide)), fun e => h2 (add_ne e (by decide)), fun e => h3 (add_ne e (by decide)), fun e => h4 (add_ne e (by decide)), fun e => h5 (add_ne e (by decide)), fun e => h6 (add_ne e (by decide)), fun e => h7 (add_ne e (by decide)), fun e => h8 (add_ne e (by decide)), fun e => h9 (add_ne e (by decide)), fun e => h10 (add_ne e (by decide)), fun e => h11 (add_ne e (by decide)), fun _ => rfl, fun e => h13 (add_ne e (by decide)), fun e => h14 (add_ne e (by decide)), fun e => h15 (add_ne e (by decide)), fun e => h16 (add_ne e (by decide)), fun e => h17 (add_ne e (by decide)), fun e => h18 (add_ne e (by decide)), fun e => h19 (add_ne e (by decide)), fun e => h20 (add_ne e (by decide)), fun e => h21 (add_ne e (by decide)), fun e => h22 (add_ne e (by decide)), fun e => h23 (add_ne e (by decide))⟩
    · -- 13
      have e11 := h11 (hdep 11 (by decide +kernel))
      subst e11
      refine wpOp_step rfl fun Kz hKz => ?_
      go_simp
      exact hKz _ _ ⟨_, _, _, _, _, _, _, _, _, _, _, _, _, _, _, _, _, _, _, _, _, _, _, _, rfl, hW, fun e => h0 (add_ne e (by decide)), fun e => h1 (add_ne e (by decide)), fun e => h2 (add_ne e (by decide)), fun e => h3 (add_ne e (by decide)), fun e => h4 (add_ne e (by decide)), fun e => h5 (add_ne e (by decide)), fun e => h6 (add_ne e (by decide)), fun e => h7 (add_ne e (by decide)), fun e => h8 (add_ne e (by decide)), fun e => h9 (add_ne e (by decide)), fun e => h10 (add_ne e (by decide)), fun e => h11 (add_ne e (by decide)), fun e => h12 (add_ne e (by decide)), fun _ => rfl, fun e => h14 (add_ne e (by decide)), fun e => h15 (add_ne e (by decide)), fun e => h16 (add_ne e (by decide)), fun e => h17 (add_ne e (by decide)), fun e => h18 (add_ne e (by decide)), fun e => h19 (add_ne e (by decide)), fun e => h20 (add_ne e (by decide)), fun e => h21 (add_ne e (by decide)), fun e => h22 (add_ne e (by decide)), fun e => h23 (add_ne e (by decide))⟩
    · -- 14
      have e11 := h11 (hdep 11 (by decide +kernel))
      subst e11
      have e13 := h13 (hdep 13 (by decide +kernel))
      subst e13
      refine wpOp_step rfl fun Kz hKz => ?_
      go_simp
      exact hKz _ _ ⟨_, _, _, _, _, _, _, _, _, _, _, _, _, _, _, _, _, _, _, _, _, _, _, _, rfl, hW, fun e => h0 (add_ne e (by decide)), fun e => h1 (add_ne e (by decide)), fun e => h2 (add_ne e (by decide)), fun e => h3 (add_ne e (by decide)), fun e => h4 (add_ne e (by decide)), fun e => h5 (add_ne e (by decide)), fun e => h6 (add_ne e (by decide)), fun e => h7 (add_ne e (by decide)), fun e => h8 (add_ne e (by decide)), fun e => h9 (add_ne e (by decide)), fun e => h10 (add_ne e (by decide)), fun e => h11 (add_ne e (by decide)), fun e => h12 (add_ne e (by decide)), fun e => h13 (add_ne e (by decide)), fun _ => rfl, fun e => h15 (add_ne e (by decide)), fun e => h16 (add_ne e (by decide)), fun e => h17 (add_ne e (by decide)), fun e => h18 (add_ne e (by decide)), fun e => h19 (add_ne e (by decide)), fun e => h20 (add_ne e (by decide)), fun e => h21 (add_ne e (by decide)), fun e => h22 (add_ne e (by decide)), fun e => h23 (add_ne e (by decide))⟩
    · -- 15
      have e11 := h11 (hdep 11 (by decide +kernel))
      subst e11
      have e14 := h14 (hdep 14 (by decide +kernel))
      subst e14
      obtain ⟨k8, k9, ⟨k0, k1, k2, k3, k4, k5, k6⟩, k7, k10, k11⟩ := hS.out wz hW
      refine wpOp_step rfl fun Kz hKz => ?_
      go_simp
      exact hKz _ _ ⟨_, _, _, _, _, _, _, _, _, _, _, _, _, _, _, _, _, _, _, _, _, _, _, _, rfl, hW, fun e => h0 (add_ne e (by decide)), fun e => h1 (add_ne e (by decide)), fun e => h2 (add_ne e (by decide)), fun e => h3 (add_ne e (by decide)), fun e => h4 (add_ne e (by decide)), fun e => h5 (add_ne e (by decide)), fun e => h6 (add_ne e (by decide)), fun e => h7 (add_ne e (by decide)), fun e => h8 (add_ne e (by decide)), fun e => h9 (add_ne e (by decide)), fun e => h10 (add_ne e (by decide)), fun e => h11 (add_ne e (by decide)), fun e => h12 (add_ne e (by decide)), fun e => h13 (add_ne e (by decide)), fun e => h14 (add_ne e (by decide)), fun _ => rfl, fun e => h16 (add_ne e (by decide)), fun e => h17 (add_ne e (by decide)), fun e => h18 (add_ne e (by decide)), fun e => h19 (add_ne e (by decide)), fun e => h20 (add_ne e (by decide)), fun e => h21 (add_ne e (by decide)), fun e => h22 (add_ne e (by decide)), fun e => h23 (add_ne e (by decide))⟩
    · -- 16
      have e11 := h11 (hdep 11 (by decide +kernel))
      subst e11
      have e12 := h12 (hdep 12 (by decide +kernel))
      subst e12
      have e15 := h15 (hdep 15 (by decide +kernel))
      subst e15
      refine wpOp_step rfl fun Kz hKz => ?_
      go_simp
      go_at_call 46
      refine (hfn.out _ (hP1.out.below hW)).mono ?_
      rintro e w1 ⟨rfl, rfl⟩
      go_simp
      exact hKz _ _ ⟨_, _, _, _, _, _, _, _, _, _, _, _, _, _, _, _, _, _, _, _, _, _, _, _, rfl, hW, fun e => h0 (add_ne e (by decide)), fun e => h1 (add_ne e (by decide)), fun e => h2 (add_ne e (by decide)), fun e => h3 (add_ne e (by decide)), fun e => h4 (add_ne e (by decide)), fun e => h5 (add_ne e (by decide)), fun e => h6 (add_ne e (by decide)), fun e => h7 (add_ne e (by decide)), fun e => h8 (add_ne e (by decide)), fun e => h9 (add_ne e (by decide)), fun e => h10 (add_ne e (by decide)), fun e => h11 (add_ne e (by decide)), fun e => h12 (add_ne e (by decide)), fun e => h13 (add_ne e (by decide)), fun e => h14 (add_ne e (by decide)), fun e => h15 (add_ne e (by decide)), fun _ => rfl, fun e => h17 (add_ne e (by decide)), fun e => h18 (add_ne e (by decide)), fun e => h19 (add_ne e (by decide)), fun e => h20 (add_ne e (by decide)), fun e => h21 (add_ne e (by decide)), fun e => h22 (add_ne e (by decide)), fun e => h23 (add_ne e (by decide))⟩
    · -- 17
      have e11 := h11 (hdep 11 (by decide +kernel))
      subst e11
      have e16 := h16 (hdep 16 (by decide +kernel))
      subst e16
      refine wpOp_step rfl fun Kz hKz => ?_
      go_simp
      exact hKz _ _ ⟨_, _, _, _, _, _, _, _, _, _, _, _, _, _, _, _, _, _, _, _, _, _, _, _, rfl, hW, fun e => h0 (add_ne e (by decide)), fun e => h1 (add_ne e (by decide)), fun e => h2 (add_ne e (by decide)), fun e => h3 (add_ne e (by decide)), fun e => h4 (add_ne e (by decide)), fun e => h5 (add_ne e (by decide)), fun e => h6 (add_ne e (by decide)), fun e => h7 (add_ne e (by decide)), fun e => h8 (add_ne e (by decide)), fun e => h9 (add_ne e (by decide)), fun e => h10 (add_ne e (by decide)), fun e => h11 (add_ne e (by decide)), fun e => h12 (add_ne e (by decide)), fun e => h13 (add_ne e (by decide)), fun e => h14 (add_ne e (by decide)), fun e => h15 (add_ne e (by decide)), fun e => h16 (add_ne e (by decide)), fun _ => rfl, fun e => h18 (add_ne e (by decide)), fun e => h19 (add_ne e (by decide)), fun e => h20 (add_ne e (by decide)), fun e => h21 (add_ne e (by decide)), fun e => h22 (add_ne e (by decide)), fun e => h23 (add_ne e (by decide))⟩
    · -- 18
      have e11 := h11 (hdep 11 (by decide +kernel))
      subst e11
      have e17 := h17 (hdep 17 (by decide +kernel))
      subst e17
      refine wpOp_step rfl fun Kz hKz => ?_
      go_simp
      exact hKz _ _ ⟨_, _, _, _, _, _, _, _, _, _, _, _, _, _, _, _, _, _, _, _, _, _, _, _, rfl, hW, fun e => h0 (add_ne e (by decide)), fun e => h1 (add_ne e (by decide)), fun e => h2 (add_ne e (by decide)), fun e => h3 (add_ne e (by decide)), fun e => h4 (add_ne e (by decide)), fun e => h5 (add_ne e (by decide)), fun e => h6 (add_ne e (by decide)), fun e => h7 (add_ne e (by decide)), fun e => h8 (add_ne e (by decide)), fun e => h9 (add_ne e (by decide)), fun e => h10 (add_ne e (by decide)), fun e => h11 (add_ne e (by decide)), fun e => h12 (add_ne e (by decide)), fun e => h13 (add_ne e (by decide)), fun e => h14 (add_ne e (by decide)), fun e => h15 (add_ne e (by decide)), fun e => h16 (add_ne e (by decide)), fun e => h17 (add_ne e (by decide)), fun _ => rfl, fun e => h19 (add_ne e (by decide)), fun e => h20 (add_ne e (by decide)), fun e => h21 (add_ne e (by decide)), fun e => h22 (add_ne e (by decide)), fun e => h23 (add_ne e (by decide))⟩
    · -- 19
      have e18 := h18 (hdep 18 (by decide +kernel))
      subst e18
      refine wpOp_step rfl fun Kz hKz => ?_
      go_simp
      exact hKz _ _ ⟨_, _, _, _, _, _, _, _, _, _, _, _, _, _, _, _, _, _, _, _, _, _, _, _, rfl, hW, fun e => h0 (add_ne e (by decide)), fun e => h1 (add_ne e (by decide)), fun e => h2 (add_ne e (by decide)), fun e => h3 (add_ne e (by decide)), fun e => h4 (add_ne e (by decide)), fun e => h5 (add_ne e (by decide)), fun e => h6 (add_ne e (by decide)), fun e => h7 (add_ne e (by decide)), fun e => h8 (add_ne e (by decide)), fun e => h9 (add_ne e (by decide)), fun e => h10 (add_ne e (by decide)), fun e => h11 (add_ne e (by decide)), fun e => h12 (add_ne e (by decide)), fun e => h13 (add_ne e (by decide)), fun e => h14 (add_ne e (by decide)), fun e => h15 (add_ne e (by decide)), fun e => h16 (add_ne e (by decide)), fun e => h17 (add_ne e (by decide)), fun e => h18 (add_ne e (by decide)), fun _ => rfl, fun e => h20 (add_ne e (by decide)), fun e => h21 (add_ne e (by decide)), fun e => h22 (add_ne e (by decide)), fun e => h23 (add_ne e (by decide))⟩
    · -- 20
      have e19 := h19 (hdep 19 (by decide +kernel))
      subst e19
      obtain ⟨k8, k9, ⟨k0, k1, k2, k3, k4, k5, k6⟩, k7, k10, k11⟩ := hS.out wz hW
      refine wpOp_step rfl fun Kz hKz => ?_
      go_simp
      exact hKz _ _ ⟨_, _, _, _, _, _, _, _, _, _, _, _, _, _, _, _, _, _, _, _, _, _, _, _, rfl, hW, fun e => h0 (add_ne e (by decide)), fun e => h1 (add_ne e (by decide)), fun e => h2 (add_ne e (by decide)), fun e => h3 (add_ne e (by decide)), fun e => h4 (add_ne e (by decide)), fun e => h5 (add_ne e (by decide)), fun e => h6 (add_ne e (by decide)), fun e => h7 (add_ne e (by decide)), fun e => h8 (add_ne e (by decide)), fun e => h9 (add_ne e (by decide)), fun e => h10 (add_ne e (by decide)), fun e => h11 (add_ne e (by decide)), fun e => h12 (add_ne e (by decide)), fun e => h13 (add_ne e (by decide)), fun e => h14 (add_ne e (by decide)), fun e => h15 (add_ne e (by decide)), fun e => h16 (add_ne e (by decide)), fun e => h17 (add_ne e (by decide)), fun e => h18 (add_ne e (by decide)), fun e => h19 (add_ne e (by decide)), fun _ => rfl, fun e => h21 (add_ne e (by decide)), fun e => h22 (add_ne e (by decide)), fun e => h23 (add_ne e (by decide))⟩
    · -- 21
      have e19 := h19 (hdep 19 (by decide +kernel))
      subst e19
      have e20 := h20 (hdep 20 (by decide +kernel))
      subst e20
      refine wpOp_step rfl fun Kz hKz => ?_
      go_simp
      go_at_call 57
      refine (hst _).mono ?_
      rintro e w1 ⟨rfl, hb2⟩
      go_simp
      exact hKz _ _ ⟨_, _, _, _, _, _, _, _, _, _, _, _, _, _, _, _, _, _, _, _, _, _, _, _, rfl, hW.trans (hb2.mono hW.size), fun e => h0 (add_ne e (by decide)), fun e => h1 (add_ne e (by decide)), fun e => h2 (add_ne e (by decide)), fun e => h3 (add_ne e (by decide)), fun e => h4 (add_ne e (by decide)), fun e => h5 (add_ne e (by decide)), fun e => h6 (add_ne e (by decide)), fun e => h7 (add_ne e (by decide)), fun e => h8 (add_ne e (by decide)), fun e => h9 (add_ne e (by decide)), fun e => h10 (add_ne e (by decide)), fun e => h11 (add_ne e (by decide)), fun e => h12 (add_ne e (by decide)), fun e => h13 (add_ne e (by decide)), fun e => h14 (add_ne e (by decide)), fun e => h15 (add_ne e (by decide)), fun e => h16 (add_ne e (by decide)), fun e => h17 (add_ne e (by decide)), fun e => h18 (add_ne e (by decide)), fun e => h19 (add_ne e (by decide)), fun e => h20 (add_ne e (by decide)), fun _ => rfl, fun e => h22 (add_ne e (by decide)), fun e => h23 (add_ne e (by decide))⟩
    · -- 22
      have e19 := h19 (hdep 19 (by decide +kernel))
      subst e19
      have e21 := h21 (hdep 21 (by decide +kernel))
      subst e21
      refine wpOp_step rfl fun Kz hKz => ?_
      go_simp
      exact hKz _ _ ⟨_, _, _, _, _, _, _, _, _, _, _, _, _, _, _, _, _, _, _, _, _, _, _, _, rfl, hW, fun e => h0 (add_ne e (by decide)), fun e => h1 (add_ne e (by decide)), fun e => h2 (add_ne e (by decide)), fun e => h3 (add_ne e (by decide)), fun e => h4 (add_ne e (by decide)), fun e => h5 (add_ne e (by decide)), fun e => h6 (add_ne e (by decide)), fun e => h7 (add_ne e (by decide)), fun e => h8 (add_ne e (by decide)), fun e => h9 (add_ne e (by decide)), fun e => h10 (add_ne e (by decide)), fun e => h11 (add_ne e (by decide)), fun e => h12 (add_ne e (by decide)), fun e => h13 (add_ne e (by decide)), fun e => h14 (add_ne e (by decide)), fun e => h15 (add_ne e (by decide)), fun e => h16 (add_ne e (by decide)), fun e => h17 (add_ne e (by decide)), fun e => h18 (add_ne e (by decide)), fun e => h19 (add_ne e (by decide)), fun e => h20 (add_ne e (by decide)), fun e => h21 (add_ne e (by decide)), fun _ => rfl, fun e => h23 (add_ne e (by decide))⟩
    · -- 23
      have e22 := h22 (hdep 22 (by decide +kernel))
      subst e22
      refine wpOp_step rfl fun Kz hKz => ?_
      go_simp
      exact hKz _ _ ⟨_, _, _, _, _, _, _, _, _, _, _, _, _, _, _, _, _, _, _, _, _, _, _, _, rfl, hW, fun e => h0 (add_ne e (by decide)), fun e => h1 (add_ne e (by decide)), fun e => h2 (add_ne e (by decide)), fun e => h3 (add_ne e (by decide)), fun e => h4 (add_ne e (by decide)), fun e => h5 (add_ne e (by decide)), fun e => h6 (add_ne e (by decide)), fun e => h7 (add_ne e (by decide)), fun e => h8 (add_ne e (by decide)), fun e => h9 (add_ne e (by decide)), fun e => h10 (add_ne e (by decide)), fun e => h11 (add_ne e (by decide)), fun e => h12 (add_ne e (by decide)), fun e => h13 (add_ne e (by decide)), fun e => h14 (add_ne e (by decide)), fun e => h15 (add_ne e (by decide)), fun e => h16 (add_ne e (by decide)), fun e => h17 (add_ne e (by decide)), fun e => h18 (add_ne e (by decide)), fun e => h19 (add_ne e (by decide)), fun e => h20 (add_ne e (by decide)), fun e => h21 (add_ne e (by decide)), fun e => h22 (add_ne e (by decide)), fun _ => rfl⟩
  · intro L az wz hI hL
    obtain ⟨v4, v5, v6, v7, v8, v9, v10, v11, v12, v13, v14, v15, v16, v17, v18, v19, v20, v21, v22, v23, v24, v25, v26, v27, rfl, hW, h0, h1, h2, h3, h4, h5, h6, h7, h8, h9, h10, h11, h12, h13, h14, h15, h16, h17, h18, h19, h20, h21, h22, h23⟩ := hI
    have e23 := h23 (hL 23 (by decide))
    subst e23
    go_wp2_with fail
    go_ret
    exact ⟨by rw [em.out]; rfl, hb1.out.trans (hW.mono hb1.out.size)⟩
theorem fits_any (h : PB P w gb b) (x : En) (hid : In64 x.d.id) (hlen : b.l.length ≤ 1000) : Calls Tryd.prog 39 #[.pointer (some ⟨gb, 0, none⟩), x.val] w fun e w' => e = .returned (.bool (b.fits x)) ∧ Below w.heap.size w w' := by
  obtain ⟨v, mb, D, h⟩ := h
  rcases q1 : mayB x.d b.mem b.cur with _ | _
  · exact fits_a h x hid hlen q1
  · rcases ha : atL b.l x.d.id with _ | i
    · exact fits_c h x hid hlen q1 ha
    · exact fits_b h x hid hlen q1 ha
end
end Go.Proofs.YtflbggehgjllcaaDoor
