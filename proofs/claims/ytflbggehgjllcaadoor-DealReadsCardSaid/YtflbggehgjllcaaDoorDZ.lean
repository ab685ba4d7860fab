/- What the document fixes of a book: awake tells true. -/
import Derived.Test.YtflbggehgjllcaaDoorDY
namespace Go.Proofs.YtflbggehgjllcaaDoor
open Go.RowKit
set_option linter.unusedVariables false

def d7 : Dl := ⟨7, 0, 1, 0, 1, 100, 80⟩
def m7 : Dl := ⟨7, 1, 0, 1, 0, 80, 100⟩
def bk0 : Bk := ⟨3, 2, [], 0⟩
def bk1 : Bk := ⟨3, 2, [⟨d7, 1, 0, 0⟩], 0⟩
def bk2 : Bk := ⟨3, 2, [⟨d7, 2, 0, 1⟩], 1⟩
def bk3 : Bk := ⟨3, 2, [⟨d7, 2, 2, 1⟩], 1⟩
def bk4 : Bk := ⟨3, 2, [⟨d7, 3, 2, 1⟩], 1⟩
theorem aw1 : bk0.sub d7 = ((false, 0), bk1) := by kernel_rfl
theorem aw2 : bk1.sub d7 = ((false, 6), bk1) := by kernel_rfl
theorem aw3 : bk1.sub m7 = ((true, 0), bk2) := by kernel_rfl
theorem aw4 : bk2.res 1 7 = ((2, 0), bk3) := by kernel_rfl
theorem aw5 : bk3.set 7 = (0, bk4) := by kernel_rfl
theorem aw6 : bk4.deal 7 = (d7, true) := by kernel_rfl
theorem aw7 : bk4.res 0 7 = ((0, 7), bk4) := by kernel_rfl
theorem aw8 : bk4.state 7 = 3 := by kernel_rfl
theorem aw9 : bk4.state 8 = 0 := by kernel_rfl
theorem aw10 : bk4.all 3 = [7] := by kernel_rfl
theorem aw11 : (bk4.rem 0).1 = [] := by kernel_rfl
theorem in_small {x : Int} (h0 : 0 ≤ x) (h : x ≤ 1000) : In64 x := by unfold In64; omega
theorem d7_in : d7.In := ⟨in_small (by decide) (by decide), in_small (by decide) (by decide), in_small (by decide) (by decide), in_small (by decide) (by decide), in_small (by decide) (by decide), in_small (by decide) (by decide), in_small (by decide) (by decide)⟩
theorem m7_in : m7.In := ⟨in_small (by decide) (by decide), in_small (by decide) (by decide), in_small (by decide) (by decide), in_small (by decide) (by decide), in_small (by decide) (by decide), in_small (by decide) (by decide), in_small (by decide) (by decide)⟩
theorem keepB {G : Nat → Prop} {w w' : World} {g : Nat} {o : Obj} (hK : Kp (fun j => ¬ G j) w w') (hg : G g) (h : w.heap[g]? = some o) : w'.heap[g]? = some o :=
  (hK.block g (obj_lt h) fun hn => hn hg).trans h
theorem eq77 (w : World) : (binOp .eql 33 (.agg #[.int .i64 7, .int .i64 0, .int .i64 1, .int .i64 0, .int .i64 1, .int .i64 100, .int .i64 80]) (.agg #[.int .i64 7, .int .i64 0, .int .i64 1, .int .i64 0, .int .i64 1, .int .i64 100, .int .i64 80])).run Tryd.prog w = .ok (.bool true) w := eq_deal d7 d7 w
set_option maxHeartbeats 4000000 in
set_option maxRecDepth 100000 in
theorem awake_any (w : World) (hZ : SZ w) : Calls Tryd.prog 7 #[] w fun e w' => e = .returned (.bool true) ∧ Below w.heap.size w w' := by
  have c1 := BS.made (fun j => j < w.heap.size) 3 2 w (fun j h => h) (by decide)
  have c2 := fun w => new_no 17 1 w (by decide)
  replace hZ := Lib.hid hZ
  go_enter Tryd.func7, Tryd.ntmps7
  go_upto_region 7 with (go_at_call 8; first | ((with_reducible refine c1.mono ?_); rintro e w1 ⟨gb, rfl, hB1, hb1, hgb⟩; replace hB1 := Lib.hid hB1; replace hb1 := Lib.hid hb1; replace hgb := Lib.hid hgb) | ((with_reducible refine (c2 _).mono ?_); rintro e w' ⟨rfl, rfl⟩))
  have hb2 : Below w1.heap.size w1 ((w1.alloc (.cells #[.int .i64 7, .int .i64 0, .int .i64 1, .int .i64 0, .int .i64 1, .int .i64 100, .int .i64 80] 33)).alloc (.cells #[.int .i64 7, .int .i64 1, .int .i64 0, .int .i64 1, .int .i64 0, .int .i64 80, .int .i64 100] 33)) := ((Below.refl _ _).alloc (Nat.le_refl _) _).alloc (by simp) _
  have hs2 : ((w1.alloc (.cells #[.int .i64 7, .int .i64 0, .int .i64 1, .int .i64 0, .int .i64 1, .int .i64 100, .int .i64 80] 33)).alloc (.cells #[.int .i64 7, .int .i64 1, .int .i64 0, .int .i64 1, .int .i64 0, .int .i64 80, .int .i64 100] 33)).heap.size = w1.heap.size + 1 + 1 := by simp
  have hd2 : ((w1.alloc (.cells #[.int .i64 7, .int .i64 0, .int .i64 1, .int .i64 0, .int .i64 1, .int .i64 100, .int .i64 80] 33)).alloc (.cells #[.int .i64 7, .int .i64 1, .int .i64 0, .int .i64 1, .int .i64 0, .int .i64 80, .int .i64 100] 33)).heap[w1.heap.size]? = some d7.obj := by rw [Below.heap_alloc _ _ _ (by simp)]; exact heap_alloc_new w1 _
  have hm2 : ((w1.alloc (.cells #[.int .i64 7, .int .i64 0, .int .i64 1, .int .i64 0, .int .i64 1, .int .i64 100, .int .i64 80] 33)).alloc (.cells #[.int .i64 7, .int .i64 1, .int .i64 0, .int .i64 1, .int .i64 0, .int .i64 80, .int .i64 100] 33)).heap[w1.heap.size + 1]? = some m7.obj := new_two w1 _ _
  obtain ⟨G, hG⟩ : ∃ G : Nat → Prop, G = fun j => j < w.heap.size ∨ j = w1.heap.size ∨ j = w1.heap.size + 1 := ⟨_, rfl⟩
  have hB2 : BS G gb bk0 ((w1.alloc (.cells #[.int .i64 7, .int .i64 0, .int .i64 1, .int .i64 0, .int .i64 1, .int .i64 100, .int .i64 80] 33)).alloc (.cells #[.int .i64 7, .int .i64 1, .int .i64 0, .int .i64 1, .int .i64 0, .int .i64 80, .int .i64 100] 33)) := hB1.out.more hb2 (fun j hj hg => by rw [hG] at hg; rcases hg with h | h | h <;> omega) (fun j hg => by rw [hG] at hg; have := hb1.out.size; rcases hg with h | h | h <;> omega)
  have gd : G w1.heap.size := by rw [hG]; exact .inr (.inl rfl)
  have gm : G (w1.heap.size + 1) := by rw [hG]; exact .inr (.inr rfl)
  have gw : ∀ j, j < w.heap.size → G j := fun j hj => by rw [hG]; exact .inl hj
  have hK0 : Below w.heap.size w ((w1.alloc (.cells #[.int .i64 7, .int .i64 0, .int .i64 1, .int .i64 0, .int .i64 1, .int .i64 100, .int .i64 80] 33)).alloc (.cells #[.int .i64 7, .int .i64 1, .int .i64 0, .int .i64 1, .int .i64 0, .int .i64 80, .int .i64 100] 33)) := hb1.out.trans (hb2.mono hb1.out.size)
  clear c1 c2 hB1 hb1
  replace hG := Lib.hid hG
  replace hb2 := Lib.hid hb2
  replace hs2 := Lib.hid hs2
  replace hK0 := Lib.hid hK0
  replace gw := Lib.hid gw
  replace gd := Lib.hid gd
  replace gm := Lib.hid gm
  generalize ((w1.alloc (.cells #[.int .i64 7, .int .i64 0, .int .i64 1, .int .i64 0, .int .i64 1, .int .i64 100, .int .i64 80] 33)).alloc (.cells #[.int .i64 7, .int .i64 1, .int .i64 0, .int .i64 1, .int .i64 0, .int .i64 80, .int .i64 100] 33)) = W0 at *
  have k0 : W0.cell? ⟨w1.heap.size, 0, none⟩ = some (.int .i64 7) := obj_cell hd2 rfl
  have k1 : W0.cell? ⟨w1.heap.size, 1, none⟩ = some (.int .i64 0) := obj_cell hd2 rfl
  have k2 : W0.cell? ⟨w1.heap.size, 2, none⟩ = some (.int .i64 1) := obj_cell hd2 rfl
  have k3 : W0.cell? ⟨w1.heap.size, 3, none⟩ = some (.int .i64 0) := obj_cell hd2 rfl
  have k4 : W0.cell? ⟨w1.heap.size, 4, none⟩ = some (.int .i64 1) := obj_cell hd2 rfl
  have k5 : W0.cell? ⟨w1.heap.size, 5, none⟩ = some (.int .i64 100) := obj_cell hd2 rfl
  have k6 : W0.cell? ⟨w1.heap.size, 6, none⟩ = some (.int .i64 80) := obj_cell hd2 rfl
  have c1 := hB2.sub d7 d7_in
  rw [aw1] at c1
  unfold Dl.val d7 at c1
  dsimp only at c1
  replace c1 := Lib.hid c1
  go_upto_region 8 with ((go_at_call 18; (with_reducible refine c1.out.mono ?_); rintro e W1 ⟨rfl, hB3, hK1⟩))
  have hd3 := keepB hK1 gd.out hd2
  have hm3 := keepB hK1 gm.out hm2
  have hL1 : Hid (Below w.heap.size w W1) := Lib.hid (hK0.out.trans (hK1.below hK0.out.size fun j hj hn => hn (gw.out j hj)))
  clear k0 k1 k2 k3 k4 k5 k6
  clear hK1 hd2 hm2
  clear hB2
  have k0 : W1.cell? ⟨w1.heap.size, 0, none⟩ = some (.int .i64 7) := obj_cell hd3 rfl
  have k1 : W1.cell? ⟨w1.heap.size, 1, none⟩ = some (.int .i64 0) := obj_cell hd3 rfl
  have k2 : W1.cell? ⟨w1.heap.size, 2, none⟩ = some (.int .i64 1) := obj_cell hd3 rfl
  have k3 : W1.cell? ⟨w1.heap.size, 3, none⟩ = some (.int .i64 0) := obj_cell hd3 rfl
  have k4 : W1.cell? ⟨w1.heap.size, 4, none⟩ = some (.int .i64 1) := obj_cell hd3 rfl
  have k5 : W1.cell? ⟨w1.heap.size, 5, none⟩ = some (.int .i64 100) := obj_cell hd3 rfl
  have k6 : W1.cell? ⟨w1.heap.size, 6, none⟩ = some (.int .i64 80) := obj_cell hd3 rfl
  have c2 := hB3.sub d7 d7_in
  rw [aw2] at c2
  unfold Dl.val d7 at c2
  dsimp only at c2
  replace c2 := Lib.hid c2
  go_upto_region 9 with ((go_at_call 18; (with_reducible refine c2.out.mono ?_); rintro e W2 ⟨rfl, hB4, hK2⟩))
  have hd4 := keepB hK2 gd.out hd3
  have hm4 := keepB hK2 gm.out hm3
  have hL2 : Hid (Below w.heap.size w W2) := Lib.hid (hL1.out.trans (hK2.below hL1.out.size fun j hj hn => hn (gw.out j hj)))
  clear k0 k1 k2 k3 k4 k5 k6
  clear hK2 hd3 hm3
  clear hB3
  have k0 : W2.cell? ⟨w1.heap.size + 1, 0, none⟩ = some (.int .i64 7) := obj_cell hm4 rfl
  have k1 : W2.cell? ⟨w1.heap.size + 1, 1, none⟩ = some (.int .i64 1) := obj_cell hm4 rfl
  have k2 : W2.cell? ⟨w1.heap.size + 1, 2, none⟩ = some (.int .i64 0) := obj_cell hm4 rfl
  have k3 : W2.cell? ⟨w1.heap.size + 1, 3, none⟩ = some (.int .i64 1) := obj_cell hm4 rfl
  have k4 : W2.cell? ⟨w1.heap.size + 1, 4, none⟩ = some (.int .i64 0) := obj_cell hm4 rfl
  have k5 : W2.cell? ⟨w1.heap.size + 1, 5, none⟩ = some (.int .i64 80) := obj_cell hm4 rfl
  have k6 : W2.cell? ⟨w1.heap.size + 1, 6, none⟩ = some (.int .i64 100) := obj_cell hm4 rfl
  have c3 := hB4.sub m7 m7_in
  rw [aw3] at c3
  unfold Dl.val m7 at c3
  dsimp only at c3
  replace c3 := Lib.hid c3
  go_upto_region 10 with ((go_at_call 18; (with_reducible refine c3.out.mono ?_); rintro e W3 ⟨rfl, hB5, hK3⟩))
  have hd5 := keepB hK3 gd.out hd4
  have hm5 := keepB hK3 gm.out hm4
  have hL3 : Hid (Below w.heap.size w W3) := Lib.hid (hL2.out.trans (hK3.below hL2.out.size fun j hj hn => hn (gw.out j hj)))
  clear k0 k1 k2 k3 k4 k5 k6
  clear hK3 hd4 hm4
  clear hB4
  have c4 := hB5.res 1 7 (in_small (by decide) (by decide))
  rw [aw4] at c4
  dsimp only at c4
  replace c4 := Lib.hid c4
  go_upto_region 11 with ((go_at_call 20; (with_reducible refine c4.out.mono ?_); rintro e W4 ⟨rfl, hB6, hK4⟩))
  have hd6 := keepB hK4 gd.out hd5
  have hm6 := keepB hK4 gm.out hm5
  have hL4 : Hid (Below w.heap.size w W4) := Lib.hid (hL3.out.trans (hK4.below hL3.out.size fun j hj hn => hn (gw.out j hj)))
  clear hK4 hd5 hm5
  clear hB5
  have c5 := hB6.set 7 (in_small (by decide) (by decide))
  rw [aw5] at c5
  dsimp only at c5
  replace c5 := Lib.hid c5
  go_upto_region 12 with ((go_at_call 21; (with_reducible refine c5.out.mono ?_); rintro e W5 ⟨rfl, hB7, hK5⟩))
  have hd7 := keepB hK5 gd.out hd6
  have hm7 := keepB hK5 gm.out hm6
  have hL5 : Hid (Below w.heap.size w W5) := Lib.hid (hL4.out.trans (hK5.below hL4.out.size fun j hj hn => hn (gw.out j hj)))
  clear hK5 hd6 hm6
  clear hB6
  have c6 := hB7.deal 7 (in_small (by decide) (by decide))
  rw [aw6] at c6
  unfold Dl.val d7 at c6
  dsimp only at c6
  replace c6 := Lib.hid c6
  go_upto_region 13 with ((go_at_call 22; (with_reducible refine c6.out.mono ?_); rintro e W6 ⟨rfl, hb6⟩))
  have hbx : Below W6.heap.size W6 (W6.alloc (.cells #[.int .i64 7, .int .i64 0, .int .i64 1, .int .i64 0, .int .i64 1, .int .i64 100, .int .i64 80] 33)) := (Below.refl _ _).alloc (Nat.le_refl _) _
  have hx0 : (W6.alloc (.cells #[.int .i64 7, .int .i64 0, .int .i64 1, .int .i64 0, .int .i64 1, .int .i64 100, .int .i64 80] 33)).heap[W6.heap.size]? = some d7.obj := heap_alloc_new W6 _
  have hB8 := (hB7.below hb6)
  obtain ⟨G2, hG2⟩ : ∃ G2 : Nat → Prop, G2 = fun j => G j ∨ j = W6.heap.size := ⟨_, rfl⟩
  have hB9 : BS G2 gb bk4 (W6.alloc (.cells #[.int .i64 7, .int .i64 0, .int .i64 1, .int .i64 0, .int .i64 1, .int .i64 100, .int .i64 80] 33)) := hB8.more hbx (fun j hj hg => by rw [hG2] at hg; rcases hg with h | h; exact h; omega) (fun j hg => by rw [hG2] at hg; have := hbx.size; rcases hg with h | h; exact Nat.lt_of_lt_of_le (hB8.lt j h) this; simp; omega)
  have g2d : G2 w1.heap.size := by rw [hG2]; exact .inl gd.out
  have g2x : G2 W6.heap.size := by rw [hG2]; exact .inr rfl
  have g2w : ∀ j, j < w.heap.size → G2 j := fun j hj => by rw [hG2]; exact .inl (gw.out j hj)
  have hd8 : (W6.alloc (.cells #[.int .i64 7, .int .i64 0, .int .i64 1, .int .i64 0, .int .i64 1, .int .i64 100, .int .i64 80] 33)).heap[w1.heap.size]? = some d7.obj := (hbx.block _ (obj_lt ((hb6.block _ (obj_lt hd7)).trans hd7))).trans ((hb6.block _ (obj_lt hd7)).trans hd7)
  have hL6 : Hid (Below w.heap.size w (W6.alloc (.cells #[.int .i64 7, .int .i64 0, .int .i64 1, .int .i64 0, .int .i64 1, .int .i64 100, .int .i64 80] 33))) := Lib.hid (hL5.out.trans ((hb6.trans (hbx.mono hb6.size)).mono hL5.out.size))
  clear hB7 hB8 hb6 hbx hd7 hm7
  replace hG2 := Lib.hid hG2
  replace g2d := Lib.hid g2d
  replace g2x := Lib.hid g2x
  replace g2w := Lib.hid g2w
  generalize (W6.alloc (.cells #[.int .i64 7, .int .i64 0, .int .i64 1, .int .i64 0, .int .i64 1, .int .i64 100, .int .i64 80] 33)) = V0 at *
  have c7 := hB9.res 0 7 (in_small (by decide) (by decide))
  rw [aw7] at c7
  dsimp only at c7
  replace c7 := Lib.hid c7
  go_upto_region 14 with ((go_at_call 20; (with_reducible refine c7.out.mono ?_); rintro e V1 ⟨rfl, hB10, hK7⟩))
  have hd9 := keepB hK7 g2d.out hd8
  have hx9 := keepB hK7 g2x.out hx0
  have hL7 : Hid (Below w.heap.size w V1) := Lib.hid (hL6.out.trans (hK7.below hL6.out.size fun j hj hn => hn (g2w.out j hj)))
  clear hK7 hd8 hx0 hB9
  have c8 := hB10.text (hZ.out.below hL7.out)
  have c9 : ∀ V2, Below V1.heap.size V1 V2 → Calls Tryd.prog 16 #[sv bk4.text, .int .i64 3, .int .i64 2] V2 fun e w' => ∃ gc, e = .returned (.tuple #[.pointer (some ⟨gc, 0, none⟩), .int .i64 0]) ∧ BS (fun j => j < V2.heap.size) gc bk4 w' ∧ Below V2.heap.size V2 w' ∧ V2.heap.size ≤ gc := fun V2 hb =>
    BS.reads (fun j => j < V2.heap.size) hB10.ok V2 (fun j h => h) (hZ.out.below (hL7.out.trans (hb.mono hL7.out.size)))
  replace c8 := Lib.hid c8
  replace c9 := Lib.hid c9
  go_upto_region 15 with (first | ((go_at_call 11; (with_reducible refine c8.out.mono ?_); rintro e V2 ⟨rfl, hb8⟩)) | ((go_at_call 16; (with_reducible refine (c9.out V2 hb8).mono ?_); rintro e V3 ⟨gc, rfl, hC, hb9, hgc⟩)))
  obtain ⟨G3, hG3⟩ : ∃ G3 : Nat → Prop, G3 = fun j => G2 j ∨ (V2.heap.size ≤ j ∧ j < V3.heap.size) := ⟨_, rfl⟩
  have hB11 : BS G3 gb bk4 V3 := (hB10.below hb8).more hb9 (fun j hj hg => by rw [hG3] at hg; rcases hg with h | h; exact h; omega) (fun j hg => by rw [hG3] at hg; rcases hg with h | h; exact Nat.lt_of_lt_of_le ((hB10.below hb8).lt j h) hb9.size; omega)
  have hC2 : PB (fun j => V2.heap.size ≤ j ∧ j < V3.heap.size) V3 gc bk4 := (PB.live gc bk4).weak hC.pb fun j hj hn => ⟨by have : ¬ j < V2.heap.size := hn; omega, hj⟩
  have hCG : ∀ j, (V2.heap.size ≤ j ∧ j < V3.heap.size) → G3 j := fun j hj => by rw [hG3]; exact .inr hj
  have hd10 : V3.heap[w1.heap.size]? = some d7.obj := (hb9.block _ (obj_lt ((hb8.block _ (obj_lt hd9)).trans hd9))).trans ((hb8.block _ (obj_lt hd9)).trans hd9)
  have hx10 : V3.heap[W6.heap.size]? = some d7.obj := (hb9.block _ (obj_lt ((hb8.block _ (obj_lt hx9)).trans hx9))).trans ((hb8.block _ (obj_lt hx9)).trans hx9)
  have g3w : ∀ j, j < w.heap.size → G3 j := fun j hj => by rw [hG3]; exact .inl (g2w.out j hj)
  have hL8 : Hid (Below w.heap.size w V3) := Lib.hid (hL7.out.trans ((hb8.trans (hb9.mono hb8.size)).mono hL7.out.size))
  clear hB10 hC hb8 hb9 hd9 hx9
  replace hG3 := Lib.hid hG3
  replace g3w := Lib.hid g3w
  replace hCG := Lib.hid hCG
  have s7 := hB11.state 7 (in_small (by decide) (by decide))
  have s8 := hB11.state 8 (in_small (by decide) (by decide))
  rw [aw8] at s7
  rw [aw9] at s8
  have cA := hB11.all 3
  rw [aw10] at cA
  have cS : ∀ u V4, ZR V3 V4 u [7] → Calls Tryd.prog 13 #[u, .slice (some ⟨V4.heap.size, 0, none⟩) 1 1] (V4.alloc (.cells #[.int .i64 7] 3)) fun e w' => e = .returned (.bool true) ∧ ∃ n, w' = (V4.alloc (.cells #[.int .i64 7] 3)).drewN n := fun u V4 hu =>
    same_any u _ [7] [7] _ (orow_kept hu.row fun g hg => Below.heap_alloc _ _ _ (World.ownsRow.lt hu.row g hg).2) ⟨rfl, .inr ⟨V4.heap.size, 1, _, rfl, Nat.zero_le _, heap_alloc_new V4 _, by decide, by unfold maxLen; decide, by rfl, by rfl⟩⟩ (by decide) (by decide)
  have cR : ∀ V5, Below V3.heap.size V3 V5 → Calls Tryd.prog 23 #[.pointer (some ⟨gb, 0, none⟩), .int .i64 0] V5 fun e w' => ∃ p cap, e = .returned (.slice p 0 cap) ∧ PB (fun j => V2.heap.size ≤ j ∧ j < V3.heap.size) w' gc bk4 ∧ Below w.heap.size w w' := fun V5 hb =>
    ((hB11.below hb).rem 0).mono fun e w' ⟨u, h1, h2, h3, h4, h5⟩ => by
      rw [aw11] at h2
      obtain ⟨p, cap, rfl, -, -, -⟩ := orow_shape h2
      have hw5 : Below w.heap.size w V5 := hL8.out.trans (hb.mono hL8.out.size)
      exact ⟨p, cap, h1, (PB.live gc bk4).kept (below_pb hC2 hb) h5 (fun j _ hj hn => hn (hCG.out j hj)), hw5.trans (h5.below hw5.size fun j hj hn => hn (g3w.out j hj))⟩
  have cT : ∀ w', PB (fun j => V2.heap.size ≤ j ∧ j < V3.heap.size) w' gc bk4 → Calls Tryd.prog 19 #[.pointer (some ⟨gc, 0, none⟩), .int .i64 7] w' fun e w2 => e = .returned (.int .i64 3) ∧ w' = w2 := fun w' h => by
    have := state_any h (id := 7) (in_small (by decide) (by decide)) (by decide)
    rwa [aw8] at this
  replace hB11 := Lib.hid hB11
  replace hC2 := Lib.hid hC2
  replace s7 := Lib.hid s7
  replace s8 := Lib.hid s8
  replace cA := Lib.hid cA
  replace cS := Lib.hid cS
  replace cR := Lib.hid cR
  replace cT := Lib.hid cT
  have k0 : V3.cell? ⟨w1.heap.size, 0, none⟩ = some (.int .i64 7) := obj_cell hd10 rfl
  have k1 : V3.cell? ⟨w1.heap.size, 1, none⟩ = some (.int .i64 0) := obj_cell hd10 rfl
  have k2 : V3.cell? ⟨w1.heap.size, 2, none⟩ = some (.int .i64 1) := obj_cell hd10 rfl
  have k3 : V3.cell? ⟨w1.heap.size, 3, none⟩ = some (.int .i64 0) := obj_cell hd10 rfl
  have k4 : V3.cell? ⟨w1.heap.size, 4, none⟩ = some (.int .i64 1) := obj_cell hd10 rfl
  have k5 : V3.cell? ⟨w1.heap.size, 5, none⟩ = some (.int .i64 100) := obj_cell hd10 rfl
  have k6 : V3.cell? ⟨w1.heap.size, 6, none⟩ = some (.int .i64 80) := obj_cell hd10 rfl
  have q0 : V3.cell? ⟨W6.heap.size, 0, none⟩ = some (.int .i64 7) := obj_cell hx10 rfl
  have q1 : V3.cell? ⟨W6.heap.size, 1, none⟩ = some (.int .i64 0) := obj_cell hx10 rfl
  have q2 : V3.cell? ⟨W6.heap.size, 2, none⟩ = some (.int .i64 1) := obj_cell hx10 rfl
  have q3 : V3.cell? ⟨W6.heap.size, 3, none⟩ = some (.int .i64 0) := obj_cell hx10 rfl
  have q4 : V3.cell? ⟨W6.heap.size, 4, none⟩ = some (.int .i64 1) := obj_cell hx10 rfl
  have q5 : V3.cell? ⟨W6.heap.size, 5, none⟩ = some (.int .i64 100) := obj_cell hx10 rfl
  have q6 : V3.cell? ⟨W6.heap.size, 6, none⟩ = some (.int .i64 80) := obj_cell hx10 rfl
  replace hd10 := Lib.hid hd10
  replace hx10 := Lib.hid hx10
  have heq := eq77
  simp only [List.append_eq, List.cons_append, List.nil_append]
  go_wp2_with (first
    | (go_at_call 19; first | ((with_reducible refine s7.out.mono ?_); rintro e w' ⟨rfl, rfl⟩) | ((with_reducible refine s8.out.mono ?_); rintro e w' ⟨rfl, rfl⟩) | ((with_reducible refine (cT.out V6 hP6.out).mono ?_); rintro e w' ⟨rfl, rfl⟩))
    | (go_at_call 14; (with_reducible refine cA.out.mono ?_); rintro e V4 ⟨u, rfl, hu⟩; have hcS := Lib.hid (cS.out u V4 hu); have hb4 := Lib.hid hu.bl; clear hu)
    | (go_at_call 13; (with_reducible refine hcS.out.mono ?_); rintro e V5 ⟨rfl, n, rfl⟩; have hq5 := hb4.out.alloc hb4.out.size (.cells #[.int .i64 7] 3); have hb5 : Below V3.heap.size V3 ((V4.alloc (.cells #[.int .i64 7] 3)).drewN n) := ⟨hq5.os, hq5.tape, hq5.output, hq5.size, hq5.block⟩; clear hq5; replace hb5 := Lib.hid hb5)
    | (go_at_call 23; (with_reducible refine (cR.out _ hb5.out).mono ?_); rintro e V6 ⟨p6, cap6, rfl, hP6, hb6⟩; replace hP6 := Lib.hid hP6; replace hb6 := Lib.hid hb6))
  go_ret
  exact ⟨rfl, hb6.out⟩
end Go.Proofs.YtflbggehgjllcaaDoor
