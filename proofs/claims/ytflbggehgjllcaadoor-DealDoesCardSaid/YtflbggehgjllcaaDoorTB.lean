/- The law's do: Submit and Rescind. -/
import Derived.Test.YtflbggehgjllcaaDoorTA
import Derived.Test.YtflbggehgjllcaaDoorUC
namespace Go.Proofs.YtflbggehgjllcaaDoor
open Go.RowKit
set_option linter.unusedVariables false
section
variable {G : Nat → Prop} {gb rb : Nat} {b : Bk} {w : World}
set_option maxHeartbeats 8000000 in
set_option maxRecDepth 100000 in
theorem do_0 (h : BB G gb b rb b w) (x : XOp) (hx : x.In) (e0 : x.Do = 0) : Calls Tryd.prog 10 #[.pointer (some ⟨gb, 0, none⟩), .pointer (some ⟨rb, 0, none⟩), .agg x.arr] w fun e w' => e = .returned (.bool true) ∧ BB G gb (b.op x) rb (b.op x) w' ∧ Kp (fun j => ¬ G j) w w' := by
  have hop : b.op x = (b.sub x.d).2 := by unfold Bk.op; rw [if_pos e0]
  rw [hop]
  clear hop
  have h1 := h.box x
  have hbx := fun W hK => op_box (G := G) (w := w) x (W := W) hK
  have hun := fun W hK => kp_unbox (G := G) (w := w) (x := x) (W := W) hK
  obtain ⟨k0, k1, k2, k3, k4, k5, k6, k7, k8, k9⟩ := hbx _ (Kp.refl _ _)
  have c1 := h1.psub x.d hx.d
  have c2 := fun W (hW : BB (fun j => G j ∨ j = w.heap.size) gb (b.sub x.d).2 rb b W) => hW.rsub x.d hx.d
  unfold Dl.val at c1 c2
  generalize b.sub x.d = R at *
  have q0 : (x.Do == 0) = true := by simpa using e0
  obtain ⟨⟨r1, r2⟩, B⟩ := R
  dsimp only at c1 c2 ⊢
  unfold XOp.arr at *
  replace h1 := Lib.hid h1
  replace hbx := Lib.hid hbx
  replace hun := Lib.hid hun
  replace hx := Lib.hid hx
  replace h := Lib.hid h
  replace c1 := Lib.hid c1
  replace c2 := Lib.hid c2
  replace e0 := Lib.hid e0
  go_enter Tryd.func10, Tryd.ntmps10
  go_wp2_with (first | (go_at_call 18; (with_reducible refine c1.out.mono ?_); rintro e W2 ⟨rfl, hB, hK⟩; obtain ⟨j0, j1, j2, j3, j4, j5, j6, j7, j8, j9⟩ := hbx.out _ hK; replace hB := Lib.hid hB; replace hK := Lib.hid hK) | (go_at_call 24; (with_reducible refine (c2.out _ hB.out).mono ?_); rintro e W3 ⟨rfl, hD, hK3⟩; have hKK := Lib.hid (hK.out.trans hK3); replace hD := Lib.hid hD; clear hK3))
  go_ret
  exact ⟨rfl, hD.out.less fun j hj => .inl hj, hun.out _ hKK.out⟩
set_option maxHeartbeats 8000000 in
set_option maxRecDepth 100000 in
theorem do_1 (h : BB G gb b rb b w) (x : XOp) (hx : x.In) (e1 : x.Do = 1) : Calls Tryd.prog 10 #[.pointer (some ⟨gb, 0, none⟩), .pointer (some ⟨rb, 0, none⟩), .agg x.arr] w fun e w' => e = .returned (.bool true) ∧ BB G gb (b.op x) rb (b.op x) w' ∧ Kp (fun j => ¬ G j) w w' := by
  have hop : b.op x = (b.res x.m x.id).2 := by unfold Bk.op; rw [if_neg (by omega), if_pos e1]
  rw [hop]
  clear hop
  have h1 := h.box x
  have hbx := fun W hK => op_box (G := G) (w := w) x (W := W) hK
  have hun := fun W hK => kp_unbox (G := G) (w := w) (x := x) (W := W) hK
  obtain ⟨k0, k1, k2, k3, k4, k5, k6, k7, k8, k9⟩ := hbx _ (Kp.refl _ _)
  have c1 := h1.pres x.m x.id hx.id
  have c2 := fun W (hW : BB (fun j => G j ∨ j = w.heap.size) gb (b.res x.m x.id).2 rb b W) => hW.rres x.m x.id
  generalize b.res x.m x.id = R at *
  have q0 : (x.Do == 0) = false := by simp [e1]
  have q1 : (x.Do == 1) = true := by simpa using e1
  obtain ⟨⟨r1, r2⟩, B⟩ := R
  dsimp only at c1 c2 ⊢
  unfold XOp.arr at *
  replace h1 := Lib.hid h1
  replace hbx := Lib.hid hbx
  replace hun := Lib.hid hun
  replace hx := Lib.hid hx
  replace h := Lib.hid h
  replace c1 := Lib.hid c1
  replace c2 := Lib.hid c2
  replace e1 := Lib.hid e1
  go_enter Tryd.func10, Tryd.ntmps10
  go_wp2_with (first | (go_at_call 20; (with_reducible refine c1.out.mono ?_); rintro e W2 ⟨rfl, hB, hK⟩; obtain ⟨j0, j1, j2, j3, j4, j5, j6, j7, j8, j9⟩ := hbx.out _ hK; replace hB := Lib.hid hB; replace hK := Lib.hid hK) | (go_at_call 25; (with_reducible refine (c2.out _ hB.out).mono ?_); rintro e W3 ⟨rfl, hD, hK3⟩; have hKK := Lib.hid (hK.out.trans hK3); replace hD := Lib.hid hD; clear hK3))
  go_ret
  exact ⟨rfl, hD.out.less fun j hj => .inl hj, hun.out _ hKK.out⟩
end
end Go.Proofs.YtflbggehgjllcaaDoor
