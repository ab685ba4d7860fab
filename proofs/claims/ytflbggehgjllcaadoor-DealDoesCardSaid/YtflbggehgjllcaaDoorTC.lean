/- The law's do: Settle. -/
import Derived.Test.YtflbggehgjllcaaDoorRN
import Derived.Test.YtflbggehgjllcaaDoorTA
import Derived.Test.YtflbggehgjllcaaDoorUC
namespace Go.Proofs.YtflbggehgjllcaaDoor
open Go.RowKit
set_option linter.unusedVariables false
section
variable {G : Nat → Prop} {gb rb : Nat} {b : Bk} {w : World}
set_option maxHeartbeats 8000000 in
set_option maxRecDepth 100000 in
theorem do_2 (h : BB G gb b rb b w) (x : XOp) (hx : x.In) (e2 : x.Do = 2) : Calls Tryd.prog 10 #[.pointer (some ⟨gb, 0, none⟩), .pointer (some ⟨rb, 0, none⟩), .agg x.arr] w fun e w' => e = .returned (.bool true) ∧ BB G gb (b.op x) rb (b.op x) w' ∧ Kp (fun j => ¬ G j) w w' := by
  have hop : b.op x = (b.set x.id).2 := by unfold Bk.op; rw [if_neg (by omega), if_neg (by omega), if_pos e2]
  rw [hop]
  clear hop
  have h1 := h.box x
  have hbx := fun W hK => op_box (G := G) (w := w) x (W := W) hK
  have hun := fun W hK => kp_unbox (G := G) (w := w) (x := x) (W := W) hK
  obtain ⟨k0, k1, k2, k3, k4, k5, k6, k7, k8, k9⟩ := hbx _ (Kp.refl _ _)
  have q0 : (x.Do == 0) = false := by simp; omega
  have q1 : (x.Do == 1) = false := by simp; omega
  have q2 : (x.Do == 2) = true := by simpa using e2
  have c1 := fun W (hW : BB (fun j => G j ∨ j = w.heap.size) gb b rb b W) => hW.pset x.id hx.id
  have c2 := fun W (hW : BB (fun j => G j ∨ j = w.heap.size) gb (b.set x.id).2 rb b W) => hW.rset x.id
  generalize b.set x.id = R at *
  obtain ⟨r1, B⟩ := R
  dsimp only at c1 c2 ⊢
  unfold XOp.arr at *
  replace h1 := Lib.hid h1
  replace hbx := Lib.hid hbx
  replace hun := Lib.hid hun
  replace hx := Lib.hid hx
  replace h := Lib.hid h
  replace c1 := Lib.hid c1
  replace c2 := Lib.hid c2
  replace e2 := Lib.hid e2
  go_enter Tryd.func10, Tryd.ntmps10
  go_upto_region 11 with fail
  generalize w.alloc _ = W at *
  refine wp_region_closed (by kernel_rfl) (fun L az wz => ∃ v6 v74 v75 v76 v77 v78 v79 v80 v81 v82 : Value, az = ({ tmps := (Value.pointer (some ⟨gb, 0, none⟩) :: Value.pointer (some ⟨rb, 0, none⟩) :: Value.agg #[Value.int IntKind.i64 x.Do, Value.int IntKind.i64 x.m, Value.int IntKind.i64 x.id, Value.int IntKind.i64 x.d.id, Value.int IntKind.i64 x.d.a, Value.int IntKind.i64 x.d.b, Value.int IntKind.i64 x.d.sc, Value.int IntKind.i64 x.d.bc, Value.int IntKind.i64 x.d.s, Value.int IntKind.i64 x.d.t] :: undef :: undef :: Value.pointer (some ⟨w.heap.size, 0, none⟩) :: v6 :: undef :: undef :: undef :: undef :: undef :: undef :: undef :: undef :: undef :: undef :: undef :: Value.pointer (some ⟨w.heap.size, 0, none⟩) :: Value.int IntKind.i64 x.Do :: Value.bool false :: Value.bool false :: undef :: undef :: undef :: undef :: undef :: undef :: undef :: undef :: undef :: undef :: undef :: undef :: undef :: undef :: undef :: undef :: undef :: undef :: undef :: undef :: undef :: undef :: Value.bool false :: Value.bool false :: undef :: undef :: undef :: undef :: undef :: undef :: undef :: undef :: undef :: undef :: undef :: undef :: undef :: undef :: undef :: undef :: undef :: undef :: undef :: undef :: undef :: undef :: undef :: undef :: undef :: undef :: Value.bool true :: Value.bool true :: v74 :: v75 :: v76 :: v77 :: v78 :: v79 :: v80 :: v81 :: v82 :: undef :: undef :: undef :: undef :: undef :: undef :: undef :: undef :: undef :: undef :: undef :: undef :: undef :: undef :: undef :: undef :: undef :: undef :: undef :: undef :: undef :: undef :: undef :: undef :: undef :: undef :: undef :: undef :: undef :: undef :: undef :: undef :: undef :: undef :: undef :: undef :: undef :: undef :: undef :: undef :: undef :: undef :: undef :: undef :: undef :: undef :: undef :: undef :: undef :: undef :: undef :: undef :: undef :: undef :: undef :: undef :: undef :: undef :: undef :: undef :: undef :: undef :: undef :: undef :: undef :: undef :: []).toArray, defers := [] } : Act) ∧ (Kp (fun j => ¬ (G j ∨ j = w.heap.size)) W wz) ∧ (L 3 = false → BB (fun j => G j ∨ j = w.heap.size) gb b rb b wz) ∧ (L 3 = true → L 7 = false → BB (fun j => G j ∨ j = w.heap.size) gb B rb b wz) ∧ (L 7 = true → BB (fun j => G j ∨ j = w.heap.size) gb B rb B wz) ∧ (L 9 = false → v6 = Value.bool false) ∧ (L 9 = true → v6 = Value.bool true) ∧ (L 0 = true → v74 = Value.pointer (some ⟨gb, 0, none⟩)) ∧ (L 1 = true → v75 = Value.pointer (some ⟨w.heap.size, 2, none⟩)) ∧ (L 2 = true → v76 = Value.int IntKind.i64 x.id) ∧ (L 3 = true → v77 = Value.int IntKind.i64 r1) ∧ (L 4 = true → v78 = Value.pointer (some ⟨rb, 0, none⟩)) ∧ (L 5 = true → v79 = Value.pointer (some ⟨w.heap.size, 2, none⟩)) ∧ (L 6 = true → v80 = Value.int IntKind.i64 x.id) ∧ (L 7 = true → v81 = Value.int IntKind.i64 r1) ∧ (L 8 = true → v82 = Value.bool true)) (by kernel_rfl) ?_ ?_ ?_
  · exact ⟨_, _, _, _, _, _, _, _, _, _, rfl, (Kp.refl _ _).drew, fun _ => h1.out.below (Below.refl _ _).drew, nofun, nofun, fun _ => rfl, nofun, nofun, nofun, nofun, nofun, nofun, nofun, nofun, nofun, nofun⟩
  · intro L az wz iz hiz hni hI hdep hcl
    obtain ⟨v6, v74, v75, v76, v77, v78, v79, v80, v81, v82, rfl, hK, hA, hB, hC, h6, hz, k0, k1, k2, k3, k4, k5, k6, k7, k8⟩ := hI
    have hcase : iz = 0 ∨ iz = 1 ∨ iz = 2 ∨ iz = 3 ∨ iz = 4 ∨ iz = 5 ∨ iz = 6 ∨ iz = 7 ∨ iz = 8 ∨ iz = 9 := by
      have hi2 : iz < 10 := hiz
      omega
    rcases hcase with rfl | rfl | rfl | rfl | rfl | rfl | rfl | rfl | rfl | rfl
    · -- 0
      refine wpOp_step rfl fun Kz hKz => ?_
      go_simp
      exact hKz _ _ ⟨_, _, _, _, _, _, _, _, _, _, rfl, hK, fun f => hA (add_nf f), fun e f => hB (add_ne e (by decide)) (add_nf f), fun e => hC (add_ne e (by decide)), fun f => h6 (add_nf f), fun e => hz (add_ne e (by decide)), fun _ => rfl, fun e => k1 (add_ne e (by decide)), fun e => k2 (add_ne e (by decide)), fun e => k3 (add_ne e (by decide)), fun e => k4 (add_ne e (by decide)), fun e => k5 (add_ne e (by decide)), fun e => k6 (add_ne e (by decide)), fun e => k7 (add_ne e (by decide)), fun e => k8 (add_ne e (by decide))⟩
    · -- 1
      refine wpOp_step rfl fun Kz hKz => ?_
      go_simp
      exact hKz _ _ ⟨_, _, _, _, _, _, _, _, _, _, rfl, hK, fun f => hA (add_nf f), fun e f => hB (add_ne e (by decide)) (add_nf f), fun e => hC (add_ne e (by decide)), fun f => h6 (add_nf f), fun e => hz (add_ne e (by decide)), fun e => k0 (add_ne e (by decide)), fun _ => rfl, fun e => k2 (add_ne e (by decide)), fun e => k3 (add_ne e (by decide)), fun e => k4 (add_ne e (by decide)), fun e => k5 (add_ne e (by decide)), fun e => k6 (add_ne e (by decide)), fun e => k7 (add_ne e (by decide)), fun e => k8 (add_ne e (by decide))⟩
    · -- 2
      have e1 := k1 (hdep 1 (by decide +kernel))
      subst e1
      obtain ⟨z0, z1, z2, z3, z4, z5, z6, z7, z8, z9⟩ := hbx.out _ hK
      refine wpOp_step rfl fun Kz hKz => ?_
      go_simp
      exact hKz _ _ ⟨_, _, _, _, _, _, _, _, _, _, rfl, hK, fun f => hA (add_nf f), fun e f => hB (add_ne e (by decide)) (add_nf f), fun e => hC (add_ne e (by decide)), fun f => h6 (add_nf f), fun e => hz (add_ne e (by decide)), fun e => k0 (add_ne e (by decide)), fun e => k1 (add_ne e (by decide)), fun _ => rfl, fun e => k3 (add_ne e (by decide)), fun e => k4 (add_ne e (by decide)), fun e => k5 (add_ne e (by decide)), fun e => k6 (add_ne e (by decide)), fun e => k7 (add_ne e (by decide)), fun e => k8 (add_ne e (by decide))⟩
    · -- 3
      have hf7 : L 7 = false := by
        cases h : L 7 with
        | false => rfl
        | true => have := hcl 7 (h) 3 (by decide +kernel); rw [hni] at this; cases this
      have e0 := k0 (hdep 0 (by decide +kernel))
      subst e0
      have e2 := k2 (hdep 2 (by decide +kernel))
      subst e2
      refine wpOp_step rfl fun Kz hKz => ?_
      go_simp
      go_at_call 21
      refine (c1.out _ (hA hni)).mono ?_
      rintro e w1 ⟨rfl, hBn, hKn⟩
      have hK2 := hK.trans hKn
      go_simp
      exact hKz _ _ ⟨_, _, _, _, _, _, _, _, _, _, rfl, hK2, fun f => (by rw [show add L 3 3 = true from add_iff.2 (.inr rfl)] at f; cases f), fun _ _ => hBn, fun e => absurd (add_ne e (by decide)) (by rw [hf7]; decide), fun f => h6 (add_nf f), fun e => hz (add_ne e (by decide)), fun e => k0 (add_ne e (by decide)), fun e => k1 (add_ne e (by decide)), fun e => k2 (add_ne e (by decide)), fun _ => rfl, fun e => k4 (add_ne e (by decide)), fun e => k5 (add_ne e (by decide)), fun e => k6 (add_ne e (by decide)), fun e => k7 (add_ne e (by decide)), fun e => k8 (add_ne e (by decide))⟩
    · -- 4
      refine wpOp_step rfl fun Kz hKz => ?_
      go_simp
      exact hKz _ _ ⟨_, _, _, _, _, _, _, _, _, _, rfl, hK, fun f => hA (add_nf f), fun e f => hB (add_ne e (by decide)) (add_nf f), fun e => hC (add_ne e (by decide)), fun f => h6 (add_nf f), fun e => hz (add_ne e (by decide)), fun e => k0 (add_ne e (by decide)), fun e => k1 (add_ne e (by decide)), fun e => k2 (add_ne e (by decide)), fun e => k3 (add_ne e (by decide)), fun _ => rfl, fun e => k5 (add_ne e (by decide)), fun e => k6 (add_ne e (by decide)), fun e => k7 (add_ne e (by decide)), fun e => k8 (add_ne e (by decide))⟩
    · -- 5
      refine wpOp_step rfl fun Kz hKz => ?_
      go_simp
      exact hKz _ _ ⟨_, _, _, _, _, _, _, _, _, _, rfl, hK, fun f => hA (add_nf f), fun e f => hB (add_ne e (by decide)) (add_nf f), fun e => hC (add_ne e (by decide)), fun f => h6 (add_nf f), fun e => hz (add_ne e (by decide)), fun e => k0 (add_ne e (by decide)), fun e => k1 (add_ne e (by decide)), fun e => k2 (add_ne e (by decide)), fun e => k3 (add_ne e (by decide)), fun e => k4 (add_ne e (by decide)), fun _ => rfl, fun e => k6 (add_ne e (by decide)), fun e => k7 (add_ne e (by decide)), fun e => k8 (add_ne e (by decide))⟩
    · -- 6
      have e5 := k5 (hdep 5 (by decide +kernel))
      subst e5
      obtain ⟨z0, z1, z2, z3, z4, z5, z6, z7, z8, z9⟩ := hbx.out _ hK
      refine wpOp_step rfl fun Kz hKz => ?_
      go_simp
      exact hKz _ _ ⟨_, _, _, _, _, _, _, _, _, _, rfl, hK, fun f => hA (add_nf f), fun e f => hB (add_ne e (by decide)) (add_nf f), fun e => hC (add_ne e (by decide)), fun f => h6 (add_nf f), fun e => hz (add_ne e (by decide)), fun e => k0 (add_ne e (by decide)), fun e => k1 (add_ne e (by decide)), fun e => k2 (add_ne e (by decide)), fun e => k3 (add_ne e (by decide)), fun e => k4 (add_ne e (by decide)), fun e => k5 (add_ne e (by decide)), fun _ => rfl, fun e => k7 (add_ne e (by decide)), fun e => k8 (add_ne e (by decide))⟩
    · -- 7
      have t3 := hdep 3 (by decide +kernel)
      have e3 := k3 (hdep 3 (by decide +kernel))
      subst e3
      have e4 := k4 (hdep 4 (by decide +kernel))
      subst e4
      have e6 := k6 (hdep 6 (by decide +kernel))
      subst e6
      refine wpOp_step rfl fun Kz hKz => ?_
      go_simp
      go_at_call 26
      refine (c2.out _ (hB t3 hni)).mono ?_
      rintro e w1 ⟨rfl, hBn, hKn⟩
      have hK2 := hK.trans hKn
      go_simp
      exact hKz _ _ ⟨_, _, _, _, _, _, _, _, _, _, rfl, hK2, fun f => absurd t3 (by rw [add_nf f]; decide), fun _ f => (by rw [show add L 7 7 = true from add_iff.2 (.inr rfl)] at f; cases f), fun _ => hBn, fun f => h6 (add_nf f), fun e => hz (add_ne e (by decide)), fun e => k0 (add_ne e (by decide)), fun e => k1 (add_ne e (by decide)), fun e => k2 (add_ne e (by decide)), fun e => k3 (add_ne e (by decide)), fun e => k4 (add_ne e (by decide)), fun e => k5 (add_ne e (by decide)), fun e => k6 (add_ne e (by decide)), fun _ => rfl, fun e => k8 (add_ne e (by decide))⟩
    · -- 8
      have e3 := k3 (hdep 3 (by decide +kernel))
      subst e3
      have e7 := k7 (hdep 7 (by decide +kernel))
      subst e7
      refine wpOp_step rfl fun Kz hKz => ?_
      go_simp
      exact hKz _ _ ⟨_, _, _, _, _, _, _, _, _, _, rfl, hK, fun f => hA (add_nf f), fun e f => hB (add_ne e (by decide)) (add_nf f), fun e => hC (add_ne e (by decide)), fun f => h6 (add_nf f), fun e => hz (add_ne e (by decide)), fun e => k0 (add_ne e (by decide)), fun e => k1 (add_ne e (by decide)), fun e => k2 (add_ne e (by decide)), fun e => k3 (add_ne e (by decide)), fun e => k4 (add_ne e (by decide)), fun e => k5 (add_ne e (by decide)), fun e => k6 (add_ne e (by decide)), fun e => k7 (add_ne e (by decide)), fun _ => rfl⟩
    · -- 9
      have e8 := k8 (hdep 8 (by decide +kernel))
      subst e8
      refine wpOp_step rfl fun Kz hKz => ?_
      go_simp
      exact hKz _ _ ⟨_, _, _, _, _, _, _, _, _, _, rfl, hK, fun f => hA (add_nf f), fun e f => hB (add_ne e (by decide)) (add_nf f), fun e => hC (add_ne e (by decide)), fun f => (by rw [show add L 9 9 = true from add_iff.2 (.inr rfl)] at f; cases f), fun _ => rfl, fun e => k0 (add_ne e (by decide)), fun e => k1 (add_ne e (by decide)), fun e => k2 (add_ne e (by decide)), fun e => k3 (add_ne e (by decide)), fun e => k4 (add_ne e (by decide)), fun e => k5 (add_ne e (by decide)), fun e => k6 (add_ne e (by decide)), fun e => k7 (add_ne e (by decide)), fun e => k8 (add_ne e (by decide))⟩
  · intro L az wz hI hL
    obtain ⟨v6, v74, v75, v76, v77, v78, v79, v80, v81, v82, rfl, hK, hA, hB, hC, h6, hz, k0, k1, k2, k3, k4, k5, k6, k7, k8⟩ := hI
    have e6 := hz (hL 9 (by decide))
    subst e6
    have hD := hC (hL 7 (by decide))
    replace hD := Lib.hid hD
    have hKK := Lib.hid hK
    clear h6 hz hA hB hC hL hK
    go_wp2_with fail
    go_ret
    exact ⟨rfl, hD.out.less fun j hj => .inl hj, hun.out _ hKK.out⟩
end
end Go.Proofs.YtflbggehgjllcaaDoor
