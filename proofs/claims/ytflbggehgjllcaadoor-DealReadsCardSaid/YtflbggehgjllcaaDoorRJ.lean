/- The contract of the reference's Submit: where nothing is turned. -/
import Derived.Test.YtflbggehgjllcaaDoorRE
namespace Go.Proofs.YtflbggehgjllcaaDoor
open Go.RowKit
set_option linter.unusedVariables false
section
variable {P : Nat → Prop} {w : World} {rb : Nat} {b : Bk} {v : Value}
theorem rb_head {W : World} (h : RB P W rb b) : W.cell? ⟨rb, 0, none⟩ = some (.int .i64 b.mem) ∧ W.cell? ⟨rb, 1, none⟩ = some (.int .i64 b.cur) := by
  obtain ⟨v, h⟩ := h
  exact ⟨obj_cell h.obj rfl, obj_cell h.obj rfl⟩
theorem dbox {w w2 : World} {d : Dl} (hb : Below (w.alloc d.obj).heap.size (w.alloc d.obj) w2) : w2.cell? ⟨w.heap.size, 0, none⟩ = some (.int .i64 d.id) ∧ w2.cell? ⟨w.heap.size, 1, none⟩ = some (.int .i64 d.a) ∧ w2.cell? ⟨w.heap.size, 2, none⟩ = some (.int .i64 d.b) ∧ w2.cell? ⟨w.heap.size, 3, none⟩ = some (.int .i64 d.sc) ∧ w2.cell? ⟨w.heap.size, 4, none⟩ = some (.int .i64 d.bc) ∧ w2.cell? ⟨w.heap.size, 5, none⟩ = some (.int .i64 d.s) ∧ w2.cell? ⟨w.heap.size, 6, none⟩ = some (.int .i64 d.t) := by
  have hn := (hb.block w.heap.size (by simp)).trans (heap_alloc_new w d.obj)
  exact ⟨obj_cell hn rfl, obj_cell hn rfl, obj_cell hn rfl, obj_cell hn rfl, obj_cell hn rfl, obj_cell hn rfl, obj_cell hn rfl⟩
set_option maxHeartbeats 2000000 in
set_option maxRecDepth 100000 in
theorem rsub_arg (h : RB P w rb b) (d : Dl) (hm : mayB d b.mem b.cur = false) :
    Calls Tryd.prog 24 #[.pointer (some ⟨rb, 0, none⟩), d.val] w fun e w' => e = .returned (.tuple #[.bool (b.sub d).1.1, .int .i64 (b.sub d).1.2]) ∧ RB P w' rb (b.sub d).2 ∧ Below w.heap.size w w' := by
  have e : b.sub d = ((false, 1), b) := by unfold Bk.sub; rw [if_pos hm]
  rw [e]
  have hb0 : Below w.heap.size w (w.alloc d.obj) := (Below.refl _ _).alloc (Nat.le_refl _) _
  have h1 := below_rb h hb0
  have cm := may_any d b.mem b.cur rb (w.alloc d.obj) (rb_head h1).1 (rb_head h1).2
  rw [hm] at cm
  obtain ⟨k0, k1, k2, k3, k4, k5, k6⟩ := dbox (Below.refl (w.alloc d.obj).heap.size (w.alloc d.obj))
  clear e hm
  unfold Dl.val at *
  unfold Dl.obj at *
  replace h1 := Lib.hid h1
  replace h := Lib.hid h
  replace hb0 := Lib.hid hb0
  replace cm := Lib.hid cm
  go_enter Tryd.func24, Tryd.ntmps24
  go_wp2_with (go_at_call 43; (with_reducible refine cm.out.mono ?_); rintro e w2 ⟨rfl, hb2⟩; replace hb2 := Lib.hid hb2)
  go_ret2
  exact ⟨rfl, below_rb h1.out hb2.out, hb0.out.trans (hb2.out.mono hb0.out.size)⟩
set_option maxHeartbeats 2000000 in
set_option maxRecDepth 100000 in
theorem rsub_many (h : RB P w rb b) (d : Dl) (hm : mayB d b.mem b.cur = true) (ha : atL b.l d.id = none) (hl : 200 ≤ b.l.length) (hlen : b.l.length ≤ 1000) :
    Calls Tryd.prog 24 #[.pointer (some ⟨rb, 0, none⟩), d.val] w fun e w' => e = .returned (.tuple #[.bool (b.sub d).1.1, .int .i64 (b.sub d).1.2]) ∧ RB P w' rb (b.sub d).2 ∧ Below w.heap.size w w' := by
  have e : b.sub d = ((false, 4), b) := by unfold Bk.sub; rw [if_neg (by rw [hm]; simp), ha]; dsimp only; rw [if_pos hl]
  rw [e]
  have hb0 : Below w.heap.size w (w.alloc d.obj) := (Below.refl _ _).alloc (Nat.le_refl _) _
  have h1 := below_rb h hb0
  have cm := may_any d b.mem b.cur rb (w.alloc d.obj) (rb_head h1).1 (rb_head h1).2
  rw [hm] at cm
  have ca : ∀ W, RB P W rb b → Calls Tryd.prog 28 #[.pointer (some ⟨rb, 0, none⟩), .int .i64 d.id] W fun e w' => e = .returned (.int .i64 (-1)) ∧ W = w' := fun W hW => by
    have := at_any hW d.id hlen
    rwa [ha] at this
  have hD := fun w2 => dbox (w := w) (w2 := w2) (d := d)
  obtain ⟨k0, k1, k2, k3, k4, k5, k6⟩ := dbox (Below.refl (w.alloc d.obj).heap.size (w.alloc d.obj))
  have hlz : (200 : Int) ≤ (b.l.length : Int) := by omega
  have hc : ∀ W, RB P W rb b → ∃ p cap, W.cell? ⟨rb, 2, none⟩ = some (.slice p b.l.length cap) := fun W ⟨v, hW⟩ => by
    obtain ⟨p, cap, rfl, -, -, -⟩ := orow_shape hW.row
    exact ⟨p, cap, obj_cell hW.obj rfl⟩
  clear e hm
  unfold Dl.val at *
  unfold Dl.obj at *
  replace h1 := Lib.hid h1
  replace h := Lib.hid h
  replace hb0 := Lib.hid hb0
  replace cm := Lib.hid cm
  replace ca := Lib.hid ca
  replace hD := Lib.hid hD
  replace hc := Lib.hid hc
  replace ha := Lib.hid ha
  replace hl := Lib.hid hl
  replace hlen := Lib.hid hlen
  generalize b.l.length = n at *
  go_enter Tryd.func24, Tryd.ntmps24
  go_wp2_with (first | (go_at_call 43; (with_reducible refine cm.out.mono ?_); rintro e w2 ⟨rfl, hb2⟩; have hR2 := Lib.hid (below_rb h1.out hb2); obtain ⟨j0, -⟩ := hD.out w2 hb2; obtain ⟨p, cap, c2⟩ := hc.out w2 hR2.out; replace hb2 := Lib.hid hb2) | (go_at_call 28; (with_reducible refine (ca.out _ hR2.out).mono ?_); rintro e w3 ⟨rfl, rfl⟩))
  go_ret2
  exact ⟨rfl, hR2.out, hb0.out.trans (hb2.out.mono hb0.out.size)⟩
end
end Go.Proofs.YtflbggehgjllcaaDoor
