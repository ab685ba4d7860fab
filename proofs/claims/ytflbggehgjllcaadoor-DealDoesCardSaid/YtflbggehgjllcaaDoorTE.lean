/- The law's do: Deal and State. -/
import Derived.Test.YtflbggehgjllcaaDoorTA
import Derived.Test.YtflbggehgjllcaaDoorUC
namespace Go.Proofs.YtflbggehgjllcaaDoor
open Go.RowKit
set_option linter.unusedVariables false
section
variable {G : Nat → Prop} {gb rb : Nat} {b : Bk} {w : World}
set_option maxHeartbeats 8000000 in
set_option maxRecDepth 100000 in
theorem do_4 (h : BB G gb b rb b w) (x : XOp) (hx : x.In) (e4 : x.Do ≠ 0 ∧ x.Do ≠ 1 ∧ x.Do ≠ 2 ∧ x.Do ≠ 3) (hat : atL b.l x.id = none) : Calls Tryd.prog 10 #[.pointer (some ⟨gb, 0, none⟩), .pointer (some ⟨rb, 0, none⟩), .agg x.arr] w fun e w' => e = .returned (.bool true) ∧ BB G gb (b.op x) rb (b.op x) w' ∧ Kp (fun j => ¬ G j) w w' := by
  have hop : b.op x = b := by unfold Bk.op; rw [if_neg e4.1, if_neg e4.2.1, if_neg e4.2.2.1, if_neg e4.2.2.2]
  rw [hop]
  clear hop
  have h1 := h.box x
  have hbx := fun W hK => op_box (G := G) (w := w) x (W := W) hK
  have hun := fun W hK => kp_unbox (G := G) (w := w) (x := x) (W := W) hK
  obtain ⟨k0, k1, k2, k3, k4, k5, k6, k7, k8, k9⟩ := hbx _ (Kp.refl _ _)
  have q0 : (x.Do == 0) = false := by simp; omega
  have q1 : (x.Do == 1) = false := by simp; omega
  have q2 : (x.Do == 2) = false := by simp; omega
  have q3 : (x.Do == 3) = false := by simp; omega
  have c1 := fun W (hW : BB (fun j => G j ∨ j = w.heap.size) gb b rb b W) => deal_any (hW.pbk.choose_spec) hx.id (by have := h.okb.len; omega)
  have c2 := fun W (hW : BB (fun j => G j ∨ j = w.heap.size) gb b rb b W) => at_any (hW.rbk.choose_spec) x.id (by have := h.okb.len; omega)
  have c3 := fun W (hW : BB (fun j => G j ∨ j = w.heap.size) gb b rb b W) => state_any (hW.pbk.choose_spec) hx.id (by have := h.okb.len; omega)
  rw [hat] at c2
  have hdl : b.deal x.id = (zeroD, false) := by unfold Bk.deal; rw [hat]
  have hst : b.state x.id = 0 := by unfold Bk.state; rw [hat]
  rw [hdl] at c1
  rw [hst] at c3
  clear hdl hst
  dsimp only [atI] at c1 c2 c3
  have heq : ∀ W : World, (binOp .eql 33 zeroD.val zeroD.val).run Tryd.prog W = .ok (.bool true) W := fun W => by rw [eq_deal, Dl.same_iff.2 rfl]
  unfold Dl.val at heq
  unfold zeroD at c1 heq
  dsimp only at heq
  unfold Dl.val at c1
  dsimp only at c1
  unfold XOp.arr at *
  replace h1 := Lib.hid h1
  replace hbx := Lib.hid hbx
  replace hun := Lib.hid hun
  replace hx := Lib.hid hx
  replace h := Lib.hid h
  replace c1 := Lib.hid c1
  replace c2 := Lib.hid c2
  replace c3 := Lib.hid c3
  replace e4 := Lib.hid e4
  go_enter Tryd.func10, Tryd.ntmps10
  go_wp2_with (first | (go_at_call 22; (with_reducible refine (c1.out _ h1.out).mono ?_); rintro e W2 ⟨rfl, hb2⟩; have hB2 := Lib.hid (h1.out.below hb2); have hK2 := Lib.hid (Kp.of_below (F := fun j => ¬ (G j ∨ j = w.heap.size)) hb2); obtain ⟨j0, j1, j2, j3, j4, j5, j6, j7, j8, j9⟩ := hbx.out _ hK2.out; have hwl : w.heap.size < W2.heap.size := Nat.lt_of_lt_of_le (by simp) hb2.size; replace hb2 := Lib.hid hb2) | (go_at_call 28; have hD := Lib.hid (hB2.out.below ((Below.refl W2.heap.size W2).alloc (Nat.le_refl _) (.cells #[.int .i64 0, .int .i64 0, .int .i64 0, .int .i64 0, .int .i64 0, .int .i64 0, .int .i64 0] 33))); have hKK := Lib.hid (hK2.out.alloc (.cells #[.int .i64 0, .int .i64 0, .int .i64 0, .int .i64 0, .int .i64 0, .int .i64 0, .int .i64 0] 33)); (with_reducible refine (c2.out _ hD.out).mono ?_); rintro e W3 ⟨rfl, rfl⟩) | (go_at_call 19; (with_reducible refine (c3.out _ hD.out).mono ?_); rintro e W4 ⟨rfl, rfl⟩))
  go_ret
  exact ⟨rfl, hD.out.less fun j hj => .inl hj, hun.out _ hKK.out⟩
set_option maxHeartbeats 8000000 in
set_option maxRecDepth 100000 in
theorem do_5 (h : BB G gb b rb b w) (x : XOp) (i : Nat) (hx : x.In) (e4 : x.Do ≠ 0 ∧ x.Do ≠ 1 ∧ x.Do ≠ 2 ∧ x.Do ≠ 3) (hat : atL b.l x.id = some i) : Calls Tryd.prog 10 #[.pointer (some ⟨gb, 0, none⟩), .pointer (some ⟨rb, 0, none⟩), .agg x.arr] w fun e w' => e = .returned (.bool true) ∧ BB G gb (b.op x) rb (b.op x) w' ∧ Kp (fun j => ¬ G j) w w' := by
  have hop : b.op x = b := by unfold Bk.op; rw [if_neg e4.1, if_neg e4.2.1, if_neg e4.2.2.1, if_neg e4.2.2.2]
  rw [hop]
  clear hop
  have h1 := h.box x
  have hbx := fun W hK => op_box (G := G) (w := w) x (W := W) hK
  have hun := fun W hK => kp_unbox (G := G) (w := w) (x := x) (W := W) hK
  obtain ⟨k0, k1, k2, k3, k4, k5, k6, k7, k8, k9⟩ := hbx _ (Kp.refl _ _)
  have q0 : (x.Do == 0) = false := by simp; omega
  have q1 : (x.Do == 1) = false := by simp; omega
  have q2 : (x.Do == 2) = false := by simp; omega
  have q3 : (x.Do == 3) = false := by simp; omega
  have c1 := fun W (hW : BB (fun j => G j ∨ j = w.heap.size) gb b rb b W) => deal_any (hW.pbk.choose_spec) hx.id (by have := h.okb.len; omega)
  have c2 := fun W (hW : BB (fun j => G j ∨ j = w.heap.size) gb b rb b W) => at_any (hW.rbk.choose_spec) x.id (by have := h.okb.len; omega)
  have c3 := fun W (hW : BB (fun j => G j ∨ j = w.heap.size) gb b rb b W) => state_any (hW.pbk.choose_spec) hx.id (by have := h.okb.len; omega)
  rw [hat] at c2
  have hdl : b.deal x.id = ((b.l.getD i default).d, true) := by unfold Bk.deal; rw [hat]
  have hst : b.state x.id = (b.l.getD i default).st := by unfold Bk.state; rw [hat]
  rw [hdl] at c1
  rw [hst] at c3
  clear hdl hst
  dsimp only [atI] at c1 c2 c3
  obtain ⟨hlt, -⟩ := atL_some hat
  rw [getD_at hlt] at c1 c3
  have he : ∀ W, BB (fun j => G j ∨ j = w.heap.size) gb b rb b W → ∃ g cap, W.cell? ⟨rb, 2, none⟩ = some (.slice (some ⟨g, 0, none⟩) b.l.length cap) ∧ W.cell? ⟨g, i * 11, none⟩ = some (.int .i64 (b.l[i]).d.id) ∧ W.cell? ⟨g, i * 11 + 1, none⟩ = some (.int .i64 (b.l[i]).d.a) ∧ W.cell? ⟨g, i * 11 + 2, none⟩ = some (.int .i64 (b.l[i]).d.b) ∧ W.cell? ⟨g, i * 11 + 3, none⟩ = some (.int .i64 (b.l[i]).d.sc) ∧ W.cell? ⟨g, i * 11 + 4, none⟩ = some (.int .i64 (b.l[i]).d.bc) ∧ W.cell? ⟨g, i * 11 + 5, none⟩ = some (.int .i64 (b.l[i]).d.s) ∧ W.cell? ⟨g, i * 11 + 6, none⟩ = some (.int .i64 (b.l[i]).d.t) ∧ W.cell? ⟨g, i * 11 + 7, none⟩ = some (.int .i64 (b.l[i]).st) := fun W hW => by
    obtain ⟨P, v, hR⟩ := hW.rbk
    obtain ⟨g, cap, cur, rfl, -⟩ := orow_some hR.row (by omega)
    obtain ⟨e0, e1, e2, e3, e4, e5, e6, e7, -⟩ := hR.entry hlt rfl
    exact ⟨g, cap, obj_cell hR.obj rfl, e0, e1, e2, e3, e4, e5, e6, e7⟩
  have hiz : (0 : Int) ≤ (i : Int) := by omega
  have hin : (i : Int) < (b.l.length : Int) := by omega
  generalize b.l[i] = y at *
  have heq : ∀ W : World, (binOp .eql 33 y.d.val y.d.val).run Tryd.prog W = .ok (.bool true) W := fun W => by rw [eq_deal, Dl.same_iff.2 rfl]
  unfold Dl.val at heq
  generalize b.l.length = n at *
  unfold Dl.val at c1
  unfold XOp.arr at *
  replace h1 := Lib.hid h1
  replace hbx := Lib.hid hbx
  replace hun := Lib.hid hun
  replace hx := Lib.hid hx
  replace h := Lib.hid h
  replace c1 := Lib.hid c1
  replace c2 := Lib.hid c2
  replace c3 := Lib.hid c3
  replace e4 := Lib.hid e4
  replace he := Lib.hid he
  go_enter Tryd.func10, Tryd.ntmps10
  go_upto_region 18 with (first | (go_at_call 22; (with_reducible refine (c1.out _ h1.out).mono ?_); rintro e W2 ⟨rfl, hb2⟩; have hB2 := Lib.hid (h1.out.below hb2); have hK2 := Lib.hid (Kp.of_below (F := fun j => ¬ (G j ∨ j = w.heap.size)) hb2); obtain ⟨j0, j1, j2, j3, j4, j5, j6, j7, j8, j9⟩ := hbx.out _ hK2.out; have hwl : w.heap.size < W2.heap.size := Nat.lt_of_lt_of_le (by simp) hb2.size; replace hb2 := Lib.hid hb2) | (go_at_call 28; have hD := Lib.hid (hB2.out.below ((Below.refl W2.heap.size W2).alloc (Nat.le_refl _) (.cells #[.int .i64 y.d.id, .int .i64 y.d.a, .int .i64 y.d.b, .int .i64 y.d.sc, .int .i64 y.d.bc, .int .i64 y.d.s, .int .i64 y.d.t] 33))); have hKK := Lib.hid (hK2.out.alloc (.cells #[.int .i64 y.d.id, .int .i64 y.d.a, .int .i64 y.d.b, .int .i64 y.d.sc, .int .i64 y.d.bc, .int .i64 y.d.s, .int .i64 y.d.t] 33)); obtain ⟨g, cap, m2, m3, m4, m5, m6, m7, m8, m9, m10⟩ := he.out _ hD.out; (with_reducible refine (c2.out _ hD.out).mono ?_); rintro e W3 ⟨rfl, rfl⟩))
  have hDd := Lib.hid (fun nq => BB.below (w' := World.drewN (W2.alloc (.cells #[.int .i64 y.d.id, .int .i64 y.d.a, .int .i64 y.d.b, .int .i64 y.d.sc, .int .i64 y.d.bc, .int .i64 y.d.s, .int .i64 y.d.t] 33)) nq) hD.out ⟨rfl, rfl, rfl, Nat.le_refl _, fun _ _ => rfl⟩)
  go_quiet ((go_at_call 19; exact Calls.quiet_of_same ((c3.out _ (hDd.out _)).mono fun e w4 hh => ⟨hh.1, hh.2.symm⟩)))
  go_wp2_with fail
  go_ret
  exact ⟨rfl, (hDd.out _).less fun j hj => .inl hj, (hun.out _ hKK.out).drewN _⟩
end
end Go.Proofs.YtflbggehgjllcaaDoor
