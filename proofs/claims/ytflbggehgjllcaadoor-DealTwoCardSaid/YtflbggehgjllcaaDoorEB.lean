/- DealTwo's walk: whichever of both submits first, they match. -/
import Derived.Test.YtflbggehgjllcaaDoorDZ
import Derived.Test.YtflbggehgjllcaaDoorEA
namespace Go.Proofs.YtflbggehgjllcaaDoor
open Go.RowKit
set_option linter.unusedVariables false

theorem T0_ok : T0.Ok := new_ok (by decide) (by decide)
theorem eq_self (x : Dl) (w : World) : (binOp .eql 33 x.val x.val).run Tryd.prog w = .ok (.bool true) w := by
  rw [eq_deal, Dl.same_iff.2 rfl]
set_option maxHeartbeats 4000000 in
set_option maxRecDepth 100000 in
theorem two_a (d : Dl) (w : World) (hd : d.In) (hZ : SZ w) : Calls Tryd.prog 5 #[d.val, .bool false] w fun e w' => e = .returned (.bool true) ∧ Below w.heap.size w w' := by
  have hb0 : Below w.heap.size w (w.alloc d.obj) := (Below.refl _ _).alloc (Nat.le_refl _) _
  have hn0 := heap_alloc_new w d.obj
  have cw := awake_any (w.alloc d.obj) (hZ.below hb0)
  have cN := fun W => BS.made (fun j => j < W.heap.size) 16 8 W (fun j h => h) (by decide)
  have hs0 : (w.alloc d.obj).heap.size = w.heap.size + 1 := by simp
  replace hZ := Lib.hid hZ
  replace hb0 := Lib.hid hb0
  replace hn0 := Lib.hid hn0
  replace cw := Lib.hid cw
  replace cN := Lib.hid cN
  replace hs0 := Lib.hid hs0
  replace hd := Lib.hid hd
  unfold Dl.val
  unfold Dl.obj at *
  go_enter Tryd.func5, Tryd.ntmps5
  go_upto_region 6 with (first | (go_at_call 7; (with_reducible refine cw.out.mono ?_); rintro e w1 ⟨rfl, hb1⟩; replace hb1 := Lib.hid hb1) | (go_at_call 8; (with_reducible refine (cN.out _).mono ?_); rintro e w2 ⟨gb, rfl, hB2, hb2, hgb⟩; replace hB2 := Lib.hid hB2; replace hb2 := Lib.hid hb2; replace hgb := Lib.hid hgb))
  have hsz1 : w.heap.size < w1.heap.size := by have h1 := hb1.out.size; have h2 := hs0.out; omega
  have hn1 : w1.heap[w.heap.size]? = some d.obj := (hb1.out.block _ (by have := hs0.out; omega)).trans hn0.out
  have hn2 : w2.heap[w.heap.size]? = some d.obj := (hb2.out.block _ hsz1).trans hn1
  have hsz2 : w.heap.size < w2.heap.size := Nat.lt_of_lt_of_le hsz1 hb2.out.size
  have hL2 : Hid (Below w.heap.size w w2) := Lib.hid (hb0.out.trans ((hb1.out.trans (hb2.out.mono hb1.out.size)).mono hb0.out.size))
  have k0 : w2.cell? ⟨w.heap.size, 0, none⟩ = some (.int .i64 d.id) := obj_cell hn2 rfl
  have k1 : w2.cell? ⟨w.heap.size, 1, none⟩ = some (.int .i64 d.a) := obj_cell hn2 rfl
  have k2 : w2.cell? ⟨w.heap.size, 2, none⟩ = some (.int .i64 d.b) := obj_cell hn2 rfl
  have k3 : w2.cell? ⟨w.heap.size, 3, none⟩ = some (.int .i64 d.sc) := obj_cell hn2 rfl
  have k4 : w2.cell? ⟨w.heap.size, 4, none⟩ = some (.int .i64 d.bc) := obj_cell hn2 rfl
  have k5 : w2.cell? ⟨w.heap.size, 5, none⟩ = some (.int .i64 d.s) := obj_cell hn2 rfl
  have k6 : w2.cell? ⟨w.heap.size, 6, none⟩ = some (.int .i64 d.t) := obj_cell hn2 rfl
  go_upto_region 9 with (fail)
  have hW1 : (w2.alloc (.cells #[.int .i64 d.id, .int .i64 d.b, .int .i64 d.a, .int .i64 d.bc, .int .i64 d.sc, .int .i64 d.t, .int .i64 d.s] 33)).heap[w.heap.size]? = some d.obj := (Below.heap_alloc _ _ _ hsz2).trans hn2
  have hW2 : (w2.alloc (.cells #[.int .i64 d.id, .int .i64 d.b, .int .i64 d.a, .int .i64 d.bc, .int .i64 d.sc, .int .i64 d.t, .int .i64 d.s] 33)).heap[w2.heap.size]? = some d.mir.obj := heap_alloc_new w2 _
  have hW0 : Below w2.heap.size w2 (w2.alloc (.cells #[.int .i64 d.id, .int .i64 d.b, .int .i64 d.a, .int .i64 d.bc, .int .i64 d.sc, .int .i64 d.t, .int .i64 d.s] 33)) := (Below.refl _ _).alloc (Nat.le_refl _) _
  have hWs : (w2.alloc (.cells #[.int .i64 d.id, .int .i64 d.b, .int .i64 d.a, .int .i64 d.bc, .int .i64 d.sc, .int .i64 d.t, .int .i64 d.s] 33)).heap.size = w2.heap.size + 1 := by simp
  have hWk : Kp (fun j => j = w.heap.size) w2 (w2.alloc (.cells #[.int .i64 d.id, .int .i64 d.b, .int .i64 d.a, .int .i64 d.bc, .int .i64 d.sc, .int .i64 d.t, .int .i64 d.s] 33)) := Kp.of_below hW0
  have hin : Dl.In d := hd.out
  obtain ⟨G, hG⟩ : ∃ G : Nat → Prop, G = fun j => j < w1.heap.size ∨ j = w2.heap.size := ⟨_, rfl⟩
  have hB : BS G gb T0 (w2.alloc (.cells #[.int .i64 d.id, .int .i64 d.b, .int .i64 d.a, .int .i64 d.bc, .int .i64 d.sc, .int .i64 d.t, .int .i64 d.s] 33)) := by
    refine ⟨?_, fun j hg => ?_, T0_ok⟩
    · refine (PB.live gb T0).kept ((PB.live gb T0).weak hB2.out.pb fun j hj hn hg => ?_) hWk fun j hj hn e => hn ?_
      · rw [hG] at hg; rcases hg with h | h
        · exact hn h
        · omega
      · rw [hG, e]; exact .inl hsz1
    · rw [hG] at hg; rw [hWs]; have := hb2.out.size; rcases hg with h | h <;> omega
  have g1 : G w.heap.size := by rw [hG]; exact .inl hsz1
  have g2 : G w2.heap.size := by rw [hG]; exact .inr rfl
  have gw : ∀ j, j < w.heap.size → G j := fun j hj => by rw [hG]; exact .inl (by omega)
  have hL : Below w.heap.size w (w2.alloc (.cells #[.int .i64 d.id, .int .i64 d.b, .int .i64 d.a, .int .i64 d.bc, .int .i64 d.sc, .int .i64 d.t, .int .i64 d.s] 33)) := hL2.out.trans (hWk.below (by omega) fun j hj e => by omega)
  clear hn1 hn2 hW0
  clear k0 k1 k2 k3 k4 k5 k6
  replace hG := Lib.hid hG
  replace hL := Lib.hid hL
  replace hWk := Lib.hid hWk
  replace hWs := Lib.hid hWs
  replace gw := Lib.hid gw
  replace g1 := Lib.hid g1
  replace g2 := Lib.hid g2
  replace hsz1 := Lib.hid hsz1
  replace hsz2 := Lib.hid hsz2
  generalize hWg : (w2.alloc (.cells #[.int .i64 d.id, .int .i64 d.b, .int .i64 d.a, .int .i64 d.bc, .int .i64 d.sc, .int .i64 d.t, .int .i64 d.s] 33)) = W0 at *
  replace hWg := Lib.hid hWg
  obtain ⟨x, hx⟩ : ∃ x, x = d := ⟨_, rfl⟩
  rw [← hx] at hW1 hW2 hin
  replace hx := Lib.hid hx
  replace hin := Lib.hid hin
  rcases hmay : mayB x 16 8 with _ | _
  · have hmm : mayB x.mir 16 8 = false := by rw [mayB_mir]; exact hmay
    have k0 : W0.cell? ⟨w.heap.size, 0, none⟩ = some (.int .i64 x.id) := obj_cell hW1 rfl
    have k1 : W0.cell? ⟨w.heap.size, 1, none⟩ = some (.int .i64 x.a) := obj_cell hW1 rfl
    have k2 : W0.cell? ⟨w.heap.size, 2, none⟩ = some (.int .i64 x.b) := obj_cell hW1 rfl
    have k3 : W0.cell? ⟨w.heap.size, 3, none⟩ = some (.int .i64 x.sc) := obj_cell hW1 rfl
    have k4 : W0.cell? ⟨w.heap.size, 4, none⟩ = some (.int .i64 x.bc) := obj_cell hW1 rfl
    have k5 : W0.cell? ⟨w.heap.size, 5, none⟩ = some (.int .i64 x.s) := obj_cell hW1 rfl
    have k6 : W0.cell? ⟨w.heap.size, 6, none⟩ = some (.int .i64 x.t) := obj_cell hW1 rfl
    have c1 := hB.sub x hin.out
    rw [tw_no hmay] at c1
    unfold Dl.val at c1
    dsimp only at c1
    replace c1 := Lib.hid c1
    go_upto_region 11 with ((go_at_call 18; (with_reducible refine c1.out.mono ?_); rintro e W1 ⟨rfl, hB1, hK1⟩))
    have h1_1 := keepB hK1 g1.out hW1
    have h2_1 := keepB hK1 g2.out hW2
    have hL1 : Hid (Below w.heap.size w W1) := Lib.hid (hL.out.trans (hK1.below hL.out.size fun j hj hn => hn (gw.out j hj)))
    clear k0 k1 k2 k3 k4 k5 k6
    clear hK1 hW1 hW2 hB
    have q0 : W1.cell? ⟨w2.heap.size, 0, none⟩ = some (.int .i64 x.id) := obj_cell h2_1 rfl
    have q1 : W1.cell? ⟨w2.heap.size, 1, none⟩ = some (.int .i64 x.b) := obj_cell h2_1 rfl
    have q2 : W1.cell? ⟨w2.heap.size, 2, none⟩ = some (.int .i64 x.a) := obj_cell h2_1 rfl
    have q3 : W1.cell? ⟨w2.heap.size, 3, none⟩ = some (.int .i64 x.bc) := obj_cell h2_1 rfl
    have q4 : W1.cell? ⟨w2.heap.size, 4, none⟩ = some (.int .i64 x.sc) := obj_cell h2_1 rfl
    have q5 : W1.cell? ⟨w2.heap.size, 5, none⟩ = some (.int .i64 x.t) := obj_cell h2_1 rfl
    have q6 : W1.cell? ⟨w2.heap.size, 6, none⟩ = some (.int .i64 x.s) := obj_cell h2_1 rfl
    have c2 := hB1.sub x.mir hin.out.mir
    rw [tw_no hmm] at c2
    unfold Dl.val at c2
    unfold Dl.mir at c2
    dsimp only at c2
    replace c2 := Lib.hid c2
    go_upto_region 12 with ((go_at_call 18; (with_reducible refine c2.out.mono ?_); rintro e W2 ⟨rfl, hBB2, hK2⟩))
    have h1_2 := keepB hK2 g1.out h1_1
    have h2_2 := keepB hK2 g2.out h2_1
    have hLL2 : Hid (Below w.heap.size w W2) := Lib.hid (hL1.out.trans (hK2.below hL1.out.size fun j hj hn => hn (gw.out j hj)))
    clear q0 q1 q2 q3 q4 q5 q6
    clear hK2 h1_1 h2_1 hB1
    have k0 : W2.cell? ⟨w.heap.size, 0, none⟩ = some (.int .i64 x.id) := obj_cell h1_2 rfl
    have k1 : W2.cell? ⟨w.heap.size, 1, none⟩ = some (.int .i64 x.a) := obj_cell h1_2 rfl
    have k2 : W2.cell? ⟨w.heap.size, 2, none⟩ = some (.int .i64 x.b) := obj_cell h1_2 rfl
    have k3 : W2.cell? ⟨w.heap.size, 3, none⟩ = some (.int .i64 x.sc) := obj_cell h1_2 rfl
    have k4 : W2.cell? ⟨w.heap.size, 4, none⟩ = some (.int .i64 x.bc) := obj_cell h1_2 rfl
    have k5 : W2.cell? ⟨w.heap.size, 5, none⟩ = some (.int .i64 x.s) := obj_cell h1_2 rfl
    have k6 : W2.cell? ⟨w.heap.size, 6, none⟩ = some (.int .i64 x.t) := obj_cell h1_2 rfl
    have c3 := hBB2.state x.id hin.out.id
    rw [tw_9] at c3
    replace c3 := Lib.hid c3
    go_wp2_with ((go_at_call 19; (with_reducible refine c3.out.mono ?_); rintro e w9 ⟨rfl, rfl⟩))
    go_ret
    exact ⟨rfl, hLL2.out⟩
  · have k0 : W0.cell? ⟨w.heap.size, 0, none⟩ = some (.int .i64 x.id) := obj_cell hW1 rfl
    have k1 : W0.cell? ⟨w.heap.size, 1, none⟩ = some (.int .i64 x.a) := obj_cell hW1 rfl
    have k2 : W0.cell? ⟨w.heap.size, 2, none⟩ = some (.int .i64 x.b) := obj_cell hW1 rfl
    have k3 : W0.cell? ⟨w.heap.size, 3, none⟩ = some (.int .i64 x.sc) := obj_cell hW1 rfl
    have k4 : W0.cell? ⟨w.heap.size, 4, none⟩ = some (.int .i64 x.bc) := obj_cell hW1 rfl
    have k5 : W0.cell? ⟨w.heap.size, 5, none⟩ = some (.int .i64 x.s) := obj_cell hW1 rfl
    have k6 : W0.cell? ⟨w.heap.size, 6, none⟩ = some (.int .i64 x.t) := obj_cell hW1 rfl
    have c1 := hB.sub x hin.out
    rw [tw_1 hmay] at c1
    unfold Dl.val at c1
    dsimp only at c1
    replace c1 := Lib.hid c1
    go_upto_region 13 with ((go_at_call 18; (with_reducible refine c1.out.mono ?_); rintro e W1 ⟨rfl, hB1, hK1⟩))
    have h1_1 := keepB hK1 g1.out hW1
    have h2_1 := keepB hK1 g2.out hW2
    have hL1 : Hid (Below w.heap.size w W1) := Lib.hid (hL.out.trans (hK1.below hL.out.size fun j hj hn => hn (gw.out j hj)))
    clear k0 k1 k2 k3 k4 k5 k6
    clear hK1 hW1 hW2 hB
    have q0 : W1.cell? ⟨w2.heap.size, 0, none⟩ = some (.int .i64 x.id) := obj_cell h2_1 rfl
    have q1 : W1.cell? ⟨w2.heap.size, 1, none⟩ = some (.int .i64 x.b) := obj_cell h2_1 rfl
    have q2 : W1.cell? ⟨w2.heap.size, 2, none⟩ = some (.int .i64 x.a) := obj_cell h2_1 rfl
    have q3 : W1.cell? ⟨w2.heap.size, 3, none⟩ = some (.int .i64 x.bc) := obj_cell h2_1 rfl
    have q4 : W1.cell? ⟨w2.heap.size, 4, none⟩ = some (.int .i64 x.sc) := obj_cell h2_1 rfl
    have q5 : W1.cell? ⟨w2.heap.size, 5, none⟩ = some (.int .i64 x.t) := obj_cell h2_1 rfl
    have q6 : W1.cell? ⟨w2.heap.size, 6, none⟩ = some (.int .i64 x.s) := obj_cell h2_1 rfl
    have c2 := hB1.sub x.mir hin.out.mir
    rw [tw_2 hmay] at c2
    unfold Dl.val at c2
    unfold Dl.mir at c2
    dsimp only at c2
    replace c2 := Lib.hid c2
    go_upto_region 14 with ((go_at_call 18; (with_reducible refine c2.out.mono ?_); rintro e W2 ⟨rfl, hBB2, hK2⟩))
    have h1_2 := keepB hK2 g1.out h1_1
    have h2_2 := keepB hK2 g2.out h2_1
    have hLL2 : Hid (Below w.heap.size w W2) := Lib.hid (hL1.out.trans (hK2.below hL1.out.size fun j hj hn => hn (gw.out j hj)))
    clear q0 q1 q2 q3 q4 q5 q6
    clear hK2 h1_1 h2_1 hB1
    have q0 : W2.cell? ⟨w2.heap.size, 0, none⟩ = some (.int .i64 x.id) := obj_cell h2_2 rfl
    have q1 : W2.cell? ⟨w2.heap.size, 1, none⟩ = some (.int .i64 x.b) := obj_cell h2_2 rfl
    have q2 : W2.cell? ⟨w2.heap.size, 2, none⟩ = some (.int .i64 x.a) := obj_cell h2_2 rfl
    have q3 : W2.cell? ⟨w2.heap.size, 3, none⟩ = some (.int .i64 x.bc) := obj_cell h2_2 rfl
    have q4 : W2.cell? ⟨w2.heap.size, 4, none⟩ = some (.int .i64 x.sc) := obj_cell h2_2 rfl
    have q5 : W2.cell? ⟨w2.heap.size, 5, none⟩ = some (.int .i64 x.t) := obj_cell h2_2 rfl
    have q6 : W2.cell? ⟨w2.heap.size, 6, none⟩ = some (.int .i64 x.s) := obj_cell h2_2 rfl
    have c3 := hBB2.sub x.mir hin.out.mir
    rw [tw_3 hmay] at c3
    unfold Dl.val at c3
    unfold Dl.mir at c3
    dsimp only at c3
    replace c3 := Lib.hid c3
    go_upto_region 15 with ((go_at_call 18; (with_reducible refine c3.out.mono ?_); rintro e W3 ⟨rfl, hB3, hK3⟩))
    have h1_3 := keepB hK3 g1.out h1_2
    have h2_3 := keepB hK3 g2.out h2_2
    have hL3 : Hid (Below w.heap.size w W3) := Lib.hid (hLL2.out.trans (hK3.below hLL2.out.size fun j hj hn => hn (gw.out j hj)))
    clear q0 q1 q2 q3 q4 q5 q6
    clear hK3 h1_2 h2_2 hBB2
    have k0 : W3.cell? ⟨w.heap.size, 0, none⟩ = some (.int .i64 x.id) := obj_cell h1_3 rfl
    have k1 : W3.cell? ⟨w.heap.size, 1, none⟩ = some (.int .i64 x.a) := obj_cell h1_3 rfl
    have k2 : W3.cell? ⟨w.heap.size, 2, none⟩ = some (.int .i64 x.b) := obj_cell h1_3 rfl
    have k3 : W3.cell? ⟨w.heap.size, 3, none⟩ = some (.int .i64 x.sc) := obj_cell h1_3 rfl
    have k4 : W3.cell? ⟨w.heap.size, 4, none⟩ = some (.int .i64 x.bc) := obj_cell h1_3 rfl
    have k5 : W3.cell? ⟨w.heap.size, 5, none⟩ = some (.int .i64 x.s) := obj_cell h1_3 rfl
    have k6 : W3.cell? ⟨w.heap.size, 6, none⟩ = some (.int .i64 x.t) := obj_cell h1_3 rfl
    have c4 := hB3.res x.b x.id hin.out.id
    rw [tw_4 hmay] at c4
    dsimp only at c4
    replace c4 := Lib.hid c4
    go_upto_region 16 with ((go_at_call 20; (with_reducible refine c4.out.mono ?_); rintro e W4 ⟨rfl, hB4, hK4⟩))
    have h1_4 := keepB hK4 g1.out h1_3
    have h2_4 := keepB hK4 g2.out h2_3
    have hL4 : Hid (Below w.heap.size w W4) := Lib.hid (hL3.out.trans (hK4.below hL3.out.size fun j hj hn => hn (gw.out j hj)))
    clear k0 k1 k2 k3 k4 k5 k6
    clear hK4 h1_3 h2_3 hB3
    have k0 : W4.cell? ⟨w.heap.size, 0, none⟩ = some (.int .i64 x.id) := obj_cell h1_4 rfl
    have k1 : W4.cell? ⟨w.heap.size, 1, none⟩ = some (.int .i64 x.a) := obj_cell h1_4 rfl
    have k2 : W4.cell? ⟨w.heap.size, 2, none⟩ = some (.int .i64 x.b) := obj_cell h1_4 rfl
    have k3 : W4.cell? ⟨w.heap.size, 3, none⟩ = some (.int .i64 x.sc) := obj_cell h1_4 rfl
    have k4 : W4.cell? ⟨w.heap.size, 4, none⟩ = some (.int .i64 x.bc) := obj_cell h1_4 rfl
    have k5 : W4.cell? ⟨w.heap.size, 5, none⟩ = some (.int .i64 x.s) := obj_cell h1_4 rfl
    have k6 : W4.cell? ⟨w.heap.size, 6, none⟩ = some (.int .i64 x.t) := obj_cell h1_4 rfl
    have c5 := hB4.res x.b x.id hin.out.id
    rw [tw_5 hmay] at c5
    dsimp only at c5
    replace c5 := Lib.hid c5
    go_upto_region 17 with ((go_at_call 20; (with_reducible refine c5.out.mono ?_); rintro e W5 ⟨rfl, hB5, hK5⟩))
    have h1_5 := keepB hK5 g1.out h1_4
    have h2_5 := keepB hK5 g2.out h2_4
    have hL5 : Hid (Below w.heap.size w W5) := Lib.hid (hL4.out.trans (hK5.below hL4.out.size fun j hj hn => hn (gw.out j hj)))
    clear k0 k1 k2 k3 k4 k5 k6
    clear hK5 h1_4 h2_4 hB4
    have k0 : W5.cell? ⟨w.heap.size, 0, none⟩ = some (.int .i64 x.id) := obj_cell h1_5 rfl
    have k1 : W5.cell? ⟨w.heap.size, 1, none⟩ = some (.int .i64 x.a) := obj_cell h1_5 rfl
    have k2 : W5.cell? ⟨w.heap.size, 2, none⟩ = some (.int .i64 x.b) := obj_cell h1_5 rfl
    have k3 : W5.cell? ⟨w.heap.size, 3, none⟩ = some (.int .i64 x.sc) := obj_cell h1_5 rfl
    have k4 : W5.cell? ⟨w.heap.size, 4, none⟩ = some (.int .i64 x.bc) := obj_cell h1_5 rfl
    have k5 : W5.cell? ⟨w.heap.size, 5, none⟩ = some (.int .i64 x.s) := obj_cell h1_5 rfl
    have k6 : W5.cell? ⟨w.heap.size, 6, none⟩ = some (.int .i64 x.t) := obj_cell h1_5 rfl
    have c6 := hB5.res x.a x.id hin.out.id
    rw [tw_6] at c6
    dsimp only at c6
    replace c6 := Lib.hid c6
    go_upto_region 18 with ((go_at_call 20; (with_reducible refine c6.out.mono ?_); rintro e W6 ⟨rfl, hB6, hK6⟩))
    have h1_6 := keepB hK6 g1.out h1_5
    have h2_6 := keepB hK6 g2.out h2_5
    have hL6 : Hid (Below w.heap.size w W6) := Lib.hid (hL5.out.trans (hK6.below hL5.out.size fun j hj hn => hn (gw.out j hj)))
    clear k0 k1 k2 k3 k4 k5 k6
    clear hK6 h1_5 h2_5 hB5
    have k0 : W6.cell? ⟨w.heap.size, 0, none⟩ = some (.int .i64 x.id) := obj_cell h1_6 rfl
    have k1 : W6.cell? ⟨w.heap.size, 1, none⟩ = some (.int .i64 x.a) := obj_cell h1_6 rfl
    have k2 : W6.cell? ⟨w.heap.size, 2, none⟩ = some (.int .i64 x.b) := obj_cell h1_6 rfl
    have k3 : W6.cell? ⟨w.heap.size, 3, none⟩ = some (.int .i64 x.sc) := obj_cell h1_6 rfl
    have k4 : W6.cell? ⟨w.heap.size, 4, none⟩ = some (.int .i64 x.bc) := obj_cell h1_6 rfl
    have k5 : W6.cell? ⟨w.heap.size, 5, none⟩ = some (.int .i64 x.s) := obj_cell h1_6 rfl
    have k6 : W6.cell? ⟨w.heap.size, 6, none⟩ = some (.int .i64 x.t) := obj_cell h1_6 rfl
    have c7 := hB6.set x.id hin.out.id
    rw [tw_7] at c7
    dsimp only at c7
    replace c7 := Lib.hid c7
    go_upto_region 19 with ((go_at_call 21; (with_reducible refine c7.out.mono ?_); rintro e W7 ⟨rfl, hB7, hK7⟩))
    have h1_7 := keepB hK7 g1.out h1_6
    have h2_7 := keepB hK7 g2.out h2_6
    have hL7 : Hid (Below w.heap.size w W7) := Lib.hid (hL6.out.trans (hK7.below hL6.out.size fun j hj hn => hn (gw.out j hj)))
    clear k0 k1 k2 k3 k4 k5 k6
    clear hK7 h1_6 h2_6 hB6
    have k0 : W7.cell? ⟨w.heap.size, 0, none⟩ = some (.int .i64 x.id) := obj_cell h1_7 rfl
    have k1 : W7.cell? ⟨w.heap.size, 1, none⟩ = some (.int .i64 x.a) := obj_cell h1_7 rfl
    have k2 : W7.cell? ⟨w.heap.size, 2, none⟩ = some (.int .i64 x.b) := obj_cell h1_7 rfl
    have k3 : W7.cell? ⟨w.heap.size, 3, none⟩ = some (.int .i64 x.sc) := obj_cell h1_7 rfl
    have k4 : W7.cell? ⟨w.heap.size, 4, none⟩ = some (.int .i64 x.bc) := obj_cell h1_7 rfl
    have k5 : W7.cell? ⟨w.heap.size, 5, none⟩ = some (.int .i64 x.s) := obj_cell h1_7 rfl
    have k6 : W7.cell? ⟨w.heap.size, 6, none⟩ = some (.int .i64 x.t) := obj_cell h1_7 rfl
    have c8 := hB7.deal x.id hin.out.id
    rw [tw_8] at c8
    unfold Dl.val at c8
    dsimp only at c8
    have heq := fun w => eq_self x w
    unfold Dl.val at heq
    have hw7 : w.heap.size < W7.heap.size := obj_lt h1_7
    replace c8 := Lib.hid c8
    replace h1_7 := Lib.hid h1_7
    clear h2_7
    go_wp2_with ((go_at_call 22; (with_reducible refine c8.out.mono ?_); rintro e W8 ⟨rfl, hb8⟩; obtain ⟨hc8, hf8⟩ := bcellD hb8; have hw8 : w.heap.size < W8.heap.size := Nat.lt_of_lt_of_le hw7 hb8.size))
    go_ret
    exact ⟨rfl, (hL7.out.trans (hb8.mono hL7.out.size)).alloc (Nat.le_trans hL7.out.size hb8.size) _⟩
set_option maxHeartbeats 4000000 in
set_option maxRecDepth 100000 in
theorem two_b (d : Dl) (w : World) (hd : d.In) (hZ : SZ w) : Calls Tryd.prog 5 #[d.val, .bool true] w fun e w' => e = .returned (.bool true) ∧ Below w.heap.size w w' := by
  have hb0 : Below w.heap.size w (w.alloc d.obj) := (Below.refl _ _).alloc (Nat.le_refl _) _
  have hn0 := heap_alloc_new w d.obj
  have cw := awake_any (w.alloc d.obj) (hZ.below hb0)
  have cN := fun W => BS.made (fun j => j < W.heap.size) 16 8 W (fun j h => h) (by decide)
  have hs0 : (w.alloc d.obj).heap.size = w.heap.size + 1 := by simp
  replace hZ := Lib.hid hZ
  replace hb0 := Lib.hid hb0
  replace hn0 := Lib.hid hn0
  replace cw := Lib.hid cw
  replace cN := Lib.hid cN
  replace hs0 := Lib.hid hs0
  replace hd := Lib.hid hd
  unfold Dl.val
  unfold Dl.obj at *
  go_enter Tryd.func5, Tryd.ntmps5
  go_upto_region 6 with (first | (go_at_call 7; (with_reducible refine cw.out.mono ?_); rintro e w1 ⟨rfl, hb1⟩; replace hb1 := Lib.hid hb1) | (go_at_call 8; (with_reducible refine (cN.out _).mono ?_); rintro e w2 ⟨gb, rfl, hB2, hb2, hgb⟩; replace hB2 := Lib.hid hB2; replace hb2 := Lib.hid hb2; replace hgb := Lib.hid hgb))
  have hsz1 : w.heap.size < w1.heap.size := by have h1 := hb1.out.size; have h2 := hs0.out; omega
  have hn1 : w1.heap[w.heap.size]? = some d.obj := (hb1.out.block _ (by have := hs0.out; omega)).trans hn0.out
  have hn2 : w2.heap[w.heap.size]? = some d.obj := (hb2.out.block _ hsz1).trans hn1
  have hsz2 : w.heap.size < w2.heap.size := Nat.lt_of_lt_of_le hsz1 hb2.out.size
  have hL2 : Hid (Below w.heap.size w w2) := Lib.hid (hb0.out.trans ((hb1.out.trans (hb2.out.mono hb1.out.size)).mono hb0.out.size))
  have k0 : w2.cell? ⟨w.heap.size, 0, none⟩ = some (.int .i64 d.id) := obj_cell hn2 rfl
  have k1 : w2.cell? ⟨w.heap.size, 1, none⟩ = some (.int .i64 d.a) := obj_cell hn2 rfl
  have k2 : w2.cell? ⟨w.heap.size, 2, none⟩ = some (.int .i64 d.b) := obj_cell hn2 rfl
  have k3 : w2.cell? ⟨w.heap.size, 3, none⟩ = some (.int .i64 d.sc) := obj_cell hn2 rfl
  have k4 : w2.cell? ⟨w.heap.size, 4, none⟩ = some (.int .i64 d.bc) := obj_cell hn2 rfl
  have k5 : w2.cell? ⟨w.heap.size, 5, none⟩ = some (.int .i64 d.s) := obj_cell hn2 rfl
  have k6 : w2.cell? ⟨w.heap.size, 6, none⟩ = some (.int .i64 d.t) := obj_cell hn2 rfl
  have hrA : (w2.alloc (.cells #[.int .i64 d.id, .int .i64 d.b, .int .i64 d.a, .int .i64 d.bc, .int .i64 d.sc, .int .i64 d.t, .int .i64 d.s] 33)).heap[w.heap.size]? = some d.obj := (Below.heap_alloc _ _ _ hsz2).trans hn2
  have hrB : ((w2.alloc (.cells #[.int .i64 d.id, .int .i64 d.b, .int .i64 d.a, .int .i64 d.bc, .int .i64 d.sc, .int .i64 d.t, .int .i64 d.s] 33)).setRow w.heap.size #[.int .i64 d.id, .int .i64 d.b, .int .i64 d.a, .int .i64 d.bc, .int .i64 d.sc, .int .i64 d.t, .int .i64 d.s]).heap[w2.heap.size]? = some d.mir.obj := (setRow_other _ _ _ _ (by omega)).trans (heap_alloc_new w2 _)
  have hrC := setRow_heap _ _ _ #[.int .i64 d.id, .int .i64 d.b, .int .i64 d.a, .int .i64 d.bc, .int .i64 d.sc, .int .i64 d.t, .int .i64 d.s] _ _ hrA
  have hrD := setRow_heap _ _ _ #[.int .i64 d.id, .int .i64 d.a, .int .i64 d.b, .int .i64 d.sc, .int .i64 d.bc, .int .i64 d.s, .int .i64 d.t] _ _ hrB
  unfold Dl.obj at hrA
  unfold Dl.obj Dl.mir at hrB
  replace hrA := Lib.hid hrA
  replace hrB := Lib.hid hrB
  replace hrC := Lib.hid hrC
  replace hrD := Lib.hid hrD
  go_upto_region 9 with (first | (refine wpList_store_row rfl 33 _ _ rfl w.heap.size _ rfl rfl 33 _ hrA.out (by kernel_rfl) (by rfl) (by simp [Value.oneCell']) ?_) | (refine wpList_store_row rfl 33 _ _ rfl w2.heap.size _ rfl rfl 33 _ hrB.out (by kernel_rfl) (by rfl) (by simp [Value.oneCell']) ?_))
  have hW1 : (((w2.alloc (.cells #[.int .i64 d.id, .int .i64 d.b, .int .i64 d.a, .int .i64 d.bc, .int .i64 d.sc, .int .i64 d.t, .int .i64 d.s] 33)).setRow w.heap.size #[.int .i64 d.id, .int .i64 d.b, .int .i64 d.a, .int .i64 d.bc, .int .i64 d.sc, .int .i64 d.t, .int .i64 d.s]).setRow w2.heap.size #[.int .i64 d.id, .int .i64 d.a, .int .i64 d.b, .int .i64 d.sc, .int .i64 d.bc, .int .i64 d.s, .int .i64 d.t]).heap[w.heap.size]? = some d.mir.obj := (setRow_other _ _ _ _ (by omega)).trans hrC.out
  have hW2 : (((w2.alloc (.cells #[.int .i64 d.id, .int .i64 d.b, .int .i64 d.a, .int .i64 d.bc, .int .i64 d.sc, .int .i64 d.t, .int .i64 d.s] 33)).setRow w.heap.size #[.int .i64 d.id, .int .i64 d.b, .int .i64 d.a, .int .i64 d.bc, .int .i64 d.sc, .int .i64 d.t, .int .i64 d.s]).setRow w2.heap.size #[.int .i64 d.id, .int .i64 d.a, .int .i64 d.b, .int .i64 d.sc, .int .i64 d.bc, .int .i64 d.s, .int .i64 d.t]).heap[w2.heap.size]? = some d.mir.mir.obj := hrD.out
  have hWk : Kp (fun j => j = w.heap.size) w2 (((w2.alloc (.cells #[.int .i64 d.id, .int .i64 d.b, .int .i64 d.a, .int .i64 d.bc, .int .i64 d.sc, .int .i64 d.t, .int .i64 d.s] 33)).setRow w.heap.size #[.int .i64 d.id, .int .i64 d.b, .int .i64 d.a, .int .i64 d.bc, .int .i64 d.sc, .int .i64 d.t, .int .i64 d.s]).setRow w2.heap.size #[.int .i64 d.id, .int .i64 d.a, .int .i64 d.b, .int .i64 d.sc, .int .i64 d.bc, .int .i64 d.s, .int .i64 d.t]) := ⟨rfl, rfl, rfl, by simp, fun j hj hn => by
    have hj2 : j ≠ w2.heap.size := by omega
    rw [setRow_other _ _ _ _ hj2, setRow_other _ _ _ _ (by exact hn)]
    exact Below.heap_alloc _ _ _ hj⟩
  have hWs : (((w2.alloc (.cells #[.int .i64 d.id, .int .i64 d.b, .int .i64 d.a, .int .i64 d.bc, .int .i64 d.sc, .int .i64 d.t, .int .i64 d.s] 33)).setRow w.heap.size #[.int .i64 d.id, .int .i64 d.b, .int .i64 d.a, .int .i64 d.bc, .int .i64 d.sc, .int .i64 d.t, .int .i64 d.s]).setRow w2.heap.size #[.int .i64 d.id, .int .i64 d.a, .int .i64 d.b, .int .i64 d.sc, .int .i64 d.bc, .int .i64 d.s, .int .i64 d.t]).heap.size = w2.heap.size + 1 := by simp
  have hin : Dl.In d.mir := hd.out.mir
  obtain ⟨G, hG⟩ : ∃ G : Nat → Prop, G = fun j => j < w1.heap.size ∨ j = w2.heap.size := ⟨_, rfl⟩
  have hB : BS G gb T0 (((w2.alloc (.cells #[.int .i64 d.id, .int .i64 d.b, .int .i64 d.a, .int .i64 d.bc, .int .i64 d.sc, .int .i64 d.t, .int .i64 d.s] 33)).setRow w.heap.size #[.int .i64 d.id, .int .i64 d.b, .int .i64 d.a, .int .i64 d.bc, .int .i64 d.sc, .int .i64 d.t, .int .i64 d.s]).setRow w2.heap.size #[.int .i64 d.id, .int .i64 d.a, .int .i64 d.b, .int .i64 d.sc, .int .i64 d.bc, .int .i64 d.s, .int .i64 d.t]) := by
    refine ⟨?_, fun j hg => ?_, T0_ok⟩
    · refine (PB.live gb T0).kept ((PB.live gb T0).weak hB2.out.pb fun j hj hn hg => ?_) hWk fun j hj hn e => hn ?_
      · rw [hG] at hg; rcases hg with h | h
        · exact hn h
        · omega
      · rw [hG, e]; exact .inl hsz1
    · rw [hG] at hg; rw [hWs]; have := hb2.out.size; rcases hg with h | h <;> omega
  have g1 : G w.heap.size := by rw [hG]; exact .inl hsz1
  have g2 : G w2.heap.size := by rw [hG]; exact .inr rfl
  have gw : ∀ j, j < w.heap.size → G j := fun j hj => by rw [hG]; exact .inl (by omega)
  have hL : Below w.heap.size w (((w2.alloc (.cells #[.int .i64 d.id, .int .i64 d.b, .int .i64 d.a, .int .i64 d.bc, .int .i64 d.sc, .int .i64 d.t, .int .i64 d.s] 33)).setRow w.heap.size #[.int .i64 d.id, .int .i64 d.b, .int .i64 d.a, .int .i64 d.bc, .int .i64 d.sc, .int .i64 d.t, .int .i64 d.s]).setRow w2.heap.size #[.int .i64 d.id, .int .i64 d.a, .int .i64 d.b, .int .i64 d.sc, .int .i64 d.bc, .int .i64 d.s, .int .i64 d.t]) := hL2.out.trans (hWk.below (by omega) fun j hj e => by omega)
  clear hn1 hn2
  clear k0 k1 k2 k3 k4 k5 k6
  replace hG := Lib.hid hG
  replace hL := Lib.hid hL
  replace hWk := Lib.hid hWk
  replace hWs := Lib.hid hWs
  replace gw := Lib.hid gw
  replace g1 := Lib.hid g1
  replace g2 := Lib.hid g2
  replace hsz1 := Lib.hid hsz1
  replace hsz2 := Lib.hid hsz2
  generalize hWg : (((w2.alloc (.cells #[.int .i64 d.id, .int .i64 d.b, .int .i64 d.a, .int .i64 d.bc, .int .i64 d.sc, .int .i64 d.t, .int .i64 d.s] 33)).setRow w.heap.size #[.int .i64 d.id, .int .i64 d.b, .int .i64 d.a, .int .i64 d.bc, .int .i64 d.sc, .int .i64 d.t, .int .i64 d.s]).setRow w2.heap.size #[.int .i64 d.id, .int .i64 d.a, .int .i64 d.b, .int .i64 d.sc, .int .i64 d.bc, .int .i64 d.s, .int .i64 d.t]) = W0 at *
  replace hWg := Lib.hid hWg
  obtain ⟨x, hx⟩ : ∃ x, x = d.mir := ⟨_, rfl⟩
  rw [← hx] at hW1 hW2 hin
  replace hx := Lib.hid hx
  replace hin := Lib.hid hin
  rcases hmay : mayB x 16 8 with _ | _
  · have hmm : mayB x.mir 16 8 = false := by rw [mayB_mir]; exact hmay
    have k0 : W0.cell? ⟨w.heap.size, 0, none⟩ = some (.int .i64 x.id) := obj_cell hW1 rfl
    have k1 : W0.cell? ⟨w.heap.size, 1, none⟩ = some (.int .i64 x.a) := obj_cell hW1 rfl
    have k2 : W0.cell? ⟨w.heap.size, 2, none⟩ = some (.int .i64 x.b) := obj_cell hW1 rfl
    have k3 : W0.cell? ⟨w.heap.size, 3, none⟩ = some (.int .i64 x.sc) := obj_cell hW1 rfl
    have k4 : W0.cell? ⟨w.heap.size, 4, none⟩ = some (.int .i64 x.bc) := obj_cell hW1 rfl
    have k5 : W0.cell? ⟨w.heap.size, 5, none⟩ = some (.int .i64 x.s) := obj_cell hW1 rfl
    have k6 : W0.cell? ⟨w.heap.size, 6, none⟩ = some (.int .i64 x.t) := obj_cell hW1 rfl
    have c1 := hB.sub x hin.out
    rw [tw_no hmay] at c1
    unfold Dl.val at c1
    dsimp only at c1
    replace c1 := Lib.hid c1
    go_upto_region 11 with ((go_at_call 18; (with_reducible refine c1.out.mono ?_); rintro e W1 ⟨rfl, hB1, hK1⟩))
    have h1_1 := keepB hK1 g1.out hW1
    have h2_1 := keepB hK1 g2.out hW2
    have hL1 : Hid (Below w.heap.size w W1) := Lib.hid (hL.out.trans (hK1.below hL.out.size fun j hj hn => hn (gw.out j hj)))
    clear k0 k1 k2 k3 k4 k5 k6
    clear hK1 hW1 hW2 hB
    have q0 : W1.cell? ⟨w2.heap.size, 0, none⟩ = some (.int .i64 x.id) := obj_cell h2_1 rfl
    have q1 : W1.cell? ⟨w2.heap.size, 1, none⟩ = some (.int .i64 x.b) := obj_cell h2_1 rfl
    have q2 : W1.cell? ⟨w2.heap.size, 2, none⟩ = some (.int .i64 x.a) := obj_cell h2_1 rfl
    have q3 : W1.cell? ⟨w2.heap.size, 3, none⟩ = some (.int .i64 x.bc) := obj_cell h2_1 rfl
    have q4 : W1.cell? ⟨w2.heap.size, 4, none⟩ = some (.int .i64 x.sc) := obj_cell h2_1 rfl
    have q5 : W1.cell? ⟨w2.heap.size, 5, none⟩ = some (.int .i64 x.t) := obj_cell h2_1 rfl
    have q6 : W1.cell? ⟨w2.heap.size, 6, none⟩ = some (.int .i64 x.s) := obj_cell h2_1 rfl
    have c2 := hB1.sub x.mir hin.out.mir
    rw [tw_no hmm] at c2
    unfold Dl.val at c2
    unfold Dl.mir at c2
    dsimp only at c2
    replace c2 := Lib.hid c2
    go_upto_region 12 with ((go_at_call 18; (with_reducible refine c2.out.mono ?_); rintro e W2 ⟨rfl, hBB2, hK2⟩))
    have h1_2 := keepB hK2 g1.out h1_1
    have h2_2 := keepB hK2 g2.out h2_1
    have hLL2 : Hid (Below w.heap.size w W2) := Lib.hid (hL1.out.trans (hK2.below hL1.out.size fun j hj hn => hn (gw.out j hj)))
    clear q0 q1 q2 q3 q4 q5 q6
    clear hK2 h1_1 h2_1 hB1
    have k0 : W2.cell? ⟨w.heap.size, 0, none⟩ = some (.int .i64 x.id) := obj_cell h1_2 rfl
    have k1 : W2.cell? ⟨w.heap.size, 1, none⟩ = some (.int .i64 x.a) := obj_cell h1_2 rfl
    have k2 : W2.cell? ⟨w.heap.size, 2, none⟩ = some (.int .i64 x.b) := obj_cell h1_2 rfl
    have k3 : W2.cell? ⟨w.heap.size, 3, none⟩ = some (.int .i64 x.sc) := obj_cell h1_2 rfl
    have k4 : W2.cell? ⟨w.heap.size, 4, none⟩ = some (.int .i64 x.bc) := obj_cell h1_2 rfl
    have k5 : W2.cell? ⟨w.heap.size, 5, none⟩ = some (.int .i64 x.s) := obj_cell h1_2 rfl
    have k6 : W2.cell? ⟨w.heap.size, 6, none⟩ = some (.int .i64 x.t) := obj_cell h1_2 rfl
    have c3 := hBB2.state x.id hin.out.id
    rw [tw_9] at c3
    replace c3 := Lib.hid c3
    go_wp2_with ((go_at_call 19; (with_reducible refine c3.out.mono ?_); rintro e w9 ⟨rfl, rfl⟩))
    go_ret
    exact ⟨rfl, hLL2.out⟩
  · have k0 : W0.cell? ⟨w.heap.size, 0, none⟩ = some (.int .i64 x.id) := obj_cell hW1 rfl
    have k1 : W0.cell? ⟨w.heap.size, 1, none⟩ = some (.int .i64 x.a) := obj_cell hW1 rfl
    have k2 : W0.cell? ⟨w.heap.size, 2, none⟩ = some (.int .i64 x.b) := obj_cell hW1 rfl
    have k3 : W0.cell? ⟨w.heap.size, 3, none⟩ = some (.int .i64 x.sc) := obj_cell hW1 rfl
    have k4 : W0.cell? ⟨w.heap.size, 4, none⟩ = some (.int .i64 x.bc) := obj_cell hW1 rfl
    have k5 : W0.cell? ⟨w.heap.size, 5, none⟩ = some (.int .i64 x.s) := obj_cell hW1 rfl
    have k6 : W0.cell? ⟨w.heap.size, 6, none⟩ = some (.int .i64 x.t) := obj_cell hW1 rfl
    have c1 := hB.sub x hin.out
    rw [tw_1 hmay] at c1
    unfold Dl.val at c1
    dsimp only at c1
    replace c1 := Lib.hid c1
    go_upto_region 13 with ((go_at_call 18; (with_reducible refine c1.out.mono ?_); rintro e W1 ⟨rfl, hB1, hK1⟩))
    have h1_1 := keepB hK1 g1.out hW1
    have h2_1 := keepB hK1 g2.out hW2
    have hL1 : Hid (Below w.heap.size w W1) := Lib.hid (hL.out.trans (hK1.below hL.out.size fun j hj hn => hn (gw.out j hj)))
    clear k0 k1 k2 k3 k4 k5 k6
    clear hK1 hW1 hW2 hB
    have q0 : W1.cell? ⟨w2.heap.size, 0, none⟩ = some (.int .i64 x.id) := obj_cell h2_1 rfl
    have q1 : W1.cell? ⟨w2.heap.size, 1, none⟩ = some (.int .i64 x.b) := obj_cell h2_1 rfl
    have q2 : W1.cell? ⟨w2.heap.size, 2, none⟩ = some (.int .i64 x.a) := obj_cell h2_1 rfl
    have q3 : W1.cell? ⟨w2.heap.size, 3, none⟩ = some (.int .i64 x.bc) := obj_cell h2_1 rfl
    have q4 : W1.cell? ⟨w2.heap.size, 4, none⟩ = some (.int .i64 x.sc) := obj_cell h2_1 rfl
    have q5 : W1.cell? ⟨w2.heap.size, 5, none⟩ = some (.int .i64 x.t) := obj_cell h2_1 rfl
    have q6 : W1.cell? ⟨w2.heap.size, 6, none⟩ = some (.int .i64 x.s) := obj_cell h2_1 rfl
    have c2 := hB1.sub x.mir hin.out.mir
    rw [tw_2 hmay] at c2
    unfold Dl.val at c2
    unfold Dl.mir at c2
    dsimp only at c2
    replace c2 := Lib.hid c2
    go_upto_region 14 with ((go_at_call 18; (with_reducible refine c2.out.mono ?_); rintro e W2 ⟨rfl, hBB2, hK2⟩))
    have h1_2 := keepB hK2 g1.out h1_1
    have h2_2 := keepB hK2 g2.out h2_1
    have hLL2 : Hid (Below w.heap.size w W2) := Lib.hid (hL1.out.trans (hK2.below hL1.out.size fun j hj hn => hn (gw.out j hj)))
    clear q0 q1 q2 q3 q4 q5 q6
    clear hK2 h1_1 h2_1 hB1
    have q0 : W2.cell? ⟨w2.heap.size, 0, none⟩ = some (.int .i64 x.id) := obj_cell h2_2 rfl
    have q1 : W2.cell? ⟨w2.heap.size, 1, none⟩ = some (.int .i64 x.b) := obj_cell h2_2 rfl
    have q2 : W2.cell? ⟨w2.heap.size, 2, none⟩ = some (.int .i64 x.a) := obj_cell h2_2 rfl
    have q3 : W2.cell? ⟨w2.heap.size, 3, none⟩ = some (.int .i64 x.bc) := obj_cell h2_2 rfl
    have q4 : W2.cell? ⟨w2.heap.size, 4, none⟩ = some (.int .i64 x.sc) := obj_cell h2_2 rfl
    have q5 : W2.cell? ⟨w2.heap.size, 5, none⟩ = some (.int .i64 x.t) := obj_cell h2_2 rfl
    have q6 : W2.cell? ⟨w2.heap.size, 6, none⟩ = some (.int .i64 x.s) := obj_cell h2_2 rfl
    have c3 := hBB2.sub x.mir hin.out.mir
    rw [tw_3 hmay] at c3
    unfold Dl.val at c3
    unfold Dl.mir at c3
    dsimp only at c3
    replace c3 := Lib.hid c3
    go_upto_region 15 with ((go_at_call 18; (with_reducible refine c3.out.mono ?_); rintro e W3 ⟨rfl, hB3, hK3⟩))
    have h1_3 := keepB hK3 g1.out h1_2
    have h2_3 := keepB hK3 g2.out h2_2
    have hL3 : Hid (Below w.heap.size w W3) := Lib.hid (hLL2.out.trans (hK3.below hLL2.out.size fun j hj hn => hn (gw.out j hj)))
    clear q0 q1 q2 q3 q4 q5 q6
    clear hK3 h1_2 h2_2 hBB2
    have k0 : W3.cell? ⟨w.heap.size, 0, none⟩ = some (.int .i64 x.id) := obj_cell h1_3 rfl
    have k1 : W3.cell? ⟨w.heap.size, 1, none⟩ = some (.int .i64 x.a) := obj_cell h1_3 rfl
    have k2 : W3.cell? ⟨w.heap.size, 2, none⟩ = some (.int .i64 x.b) := obj_cell h1_3 rfl
    have k3 : W3.cell? ⟨w.heap.size, 3, none⟩ = some (.int .i64 x.sc) := obj_cell h1_3 rfl
    have k4 : W3.cell? ⟨w.heap.size, 4, none⟩ = some (.int .i64 x.bc) := obj_cell h1_3 rfl
    have k5 : W3.cell? ⟨w.heap.size, 5, none⟩ = some (.int .i64 x.s) := obj_cell h1_3 rfl
    have k6 : W3.cell? ⟨w.heap.size, 6, none⟩ = some (.int .i64 x.t) := obj_cell h1_3 rfl
    have c4 := hB3.res x.b x.id hin.out.id
    rw [tw_4 hmay] at c4
    dsimp only at c4
    replace c4 := Lib.hid c4
    go_upto_region 16 with ((go_at_call 20; (with_reducible refine c4.out.mono ?_); rintro e W4 ⟨rfl, hB4, hK4⟩))
    have h1_4 := keepB hK4 g1.out h1_3
    have h2_4 := keepB hK4 g2.out h2_3
    have hL4 : Hid (Below w.heap.size w W4) := Lib.hid (hL3.out.trans (hK4.below hL3.out.size fun j hj hn => hn (gw.out j hj)))
    clear k0 k1 k2 k3 k4 k5 k6
    clear hK4 h1_3 h2_3 hB3
    have k0 : W4.cell? ⟨w.heap.size, 0, none⟩ = some (.int .i64 x.id) := obj_cell h1_4 rfl
    have k1 : W4.cell? ⟨w.heap.size, 1, none⟩ = some (.int .i64 x.a) := obj_cell h1_4 rfl
    have k2 : W4.cell? ⟨w.heap.size, 2, none⟩ = some (.int .i64 x.b) := obj_cell h1_4 rfl
    have k3 : W4.cell? ⟨w.heap.size, 3, none⟩ = some (.int .i64 x.sc) := obj_cell h1_4 rfl
    have k4 : W4.cell? ⟨w.heap.size, 4, none⟩ = some (.int .i64 x.bc) := obj_cell h1_4 rfl
    have k5 : W4.cell? ⟨w.heap.size, 5, none⟩ = some (.int .i64 x.s) := obj_cell h1_4 rfl
    have k6 : W4.cell? ⟨w.heap.size, 6, none⟩ = some (.int .i64 x.t) := obj_cell h1_4 rfl
    have c5 := hB4.res x.b x.id hin.out.id
    rw [tw_5 hmay] at c5
    dsimp only at c5
    replace c5 := Lib.hid c5
    go_upto_region 17 with ((go_at_call 20; (with_reducible refine c5.out.mono ?_); rintro e W5 ⟨rfl, hB5, hK5⟩))
    have h1_5 := keepB hK5 g1.out h1_4
    have h2_5 := keepB hK5 g2.out h2_4
    have hL5 : Hid (Below w.heap.size w W5) := Lib.hid (hL4.out.trans (hK5.below hL4.out.size fun j hj hn => hn (gw.out j hj)))
    clear k0 k1 k2 k3 k4 k5 k6
    clear hK5 h1_4 h2_4 hB4
    have k0 : W5.cell? ⟨w.heap.size, 0, none⟩ = some (.int .i64 x.id) := obj_cell h1_5 rfl
    have k1 : W5.cell? ⟨w.heap.size, 1, none⟩ = some (.int .i64 x.a) := obj_cell h1_5 rfl
    have k2 : W5.cell? ⟨w.heap.size, 2, none⟩ = some (.int .i64 x.b) := obj_cell h1_5 rfl
    have k3 : W5.cell? ⟨w.heap.size, 3, none⟩ = some (.int .i64 x.sc) := obj_cell h1_5 rfl
    have k4 : W5.cell? ⟨w.heap.size, 4, none⟩ = some (.int .i64 x.bc) := obj_cell h1_5 rfl
    have k5 : W5.cell? ⟨w.heap.size, 5, none⟩ = some (.int .i64 x.s) := obj_cell h1_5 rfl
    have k6 : W5.cell? ⟨w.heap.size, 6, none⟩ = some (.int .i64 x.t) := obj_cell h1_5 rfl
    have c6 := hB5.res x.a x.id hin.out.id
    rw [tw_6] at c6
    dsimp only at c6
    replace c6 := Lib.hid c6
    go_upto_region 18 with ((go_at_call 20; (with_reducible refine c6.out.mono ?_); rintro e W6 ⟨rfl, hB6, hK6⟩))
    have h1_6 := keepB hK6 g1.out h1_5
    have h2_6 := keepB hK6 g2.out h2_5
    have hL6 : Hid (Below w.heap.size w W6) := Lib.hid (hL5.out.trans (hK6.below hL5.out.size fun j hj hn => hn (gw.out j hj)))
    clear k0 k1 k2 k3 k4 k5 k6
    clear hK6 h1_5 h2_5 hB5
    have k0 : W6.cell? ⟨w.heap.size, 0, none⟩ = some (.int .i64 x.id) := obj_cell h1_6 rfl
    have k1 : W6.cell? ⟨w.heap.size, 1, none⟩ = some (.int .i64 x.a) := obj_cell h1_6 rfl
    have k2 : W6.cell? ⟨w.heap.size, 2, none⟩ = some (.int .i64 x.b) := obj_cell h1_6 rfl
    have k3 : W6.cell? ⟨w.heap.size, 3, none⟩ = some (.int .i64 x.sc) := obj_cell h1_6 rfl
    have k4 : W6.cell? ⟨w.heap.size, 4, none⟩ = some (.int .i64 x.bc) := obj_cell h1_6 rfl
    have k5 : W6.cell? ⟨w.heap.size, 5, none⟩ = some (.int .i64 x.s) := obj_cell h1_6 rfl
    have k6 : W6.cell? ⟨w.heap.size, 6, none⟩ = some (.int .i64 x.t) := obj_cell h1_6 rfl
    have c7 := hB6.set x.id hin.out.id
    rw [tw_7] at c7
    dsimp only at c7
    replace c7 := Lib.hid c7
    go_upto_region 19 with ((go_at_call 21; (with_reducible refine c7.out.mono ?_); rintro e W7 ⟨rfl, hB7, hK7⟩))
    have h1_7 := keepB hK7 g1.out h1_6
    have h2_7 := keepB hK7 g2.out h2_6
    have hL7 : Hid (Below w.heap.size w W7) := Lib.hid (hL6.out.trans (hK7.below hL6.out.size fun j hj hn => hn (gw.out j hj)))
    clear k0 k1 k2 k3 k4 k5 k6
    clear hK7 h1_6 h2_6 hB6
    have k0 : W7.cell? ⟨w.heap.size, 0, none⟩ = some (.int .i64 x.id) := obj_cell h1_7 rfl
    have k1 : W7.cell? ⟨w.heap.size, 1, none⟩ = some (.int .i64 x.a) := obj_cell h1_7 rfl
    have k2 : W7.cell? ⟨w.heap.size, 2, none⟩ = some (.int .i64 x.b) := obj_cell h1_7 rfl
    have k3 : W7.cell? ⟨w.heap.size, 3, none⟩ = some (.int .i64 x.sc) := obj_cell h1_7 rfl
    have k4 : W7.cell? ⟨w.heap.size, 4, none⟩ = some (.int .i64 x.bc) := obj_cell h1_7 rfl
    have k5 : W7.cell? ⟨w.heap.size, 5, none⟩ = some (.int .i64 x.s) := obj_cell h1_7 rfl
    have k6 : W7.cell? ⟨w.heap.size, 6, none⟩ = some (.int .i64 x.t) := obj_cell h1_7 rfl
    have c8 := hB7.deal x.id hin.out.id
    rw [tw_8] at c8
    unfold Dl.val at c8
    dsimp only at c8
    have heq := fun w => eq_self x w
    unfold Dl.val at heq
    have hw7 : w.heap.size < W7.heap.size := obj_lt h1_7
    replace c8 := Lib.hid c8
    replace h1_7 := Lib.hid h1_7
    clear h2_7
    go_wp2_with ((go_at_call 22; (with_reducible refine c8.out.mono ?_); rintro e W8 ⟨rfl, hb8⟩; obtain ⟨hc8, hf8⟩ := bcellD hb8; have hw8 : w.heap.size < W8.heap.size := Nat.lt_of_lt_of_le hw7 hb8.size))
    go_ret
    exact ⟨rfl, (hL7.out.trans (hb8.mono hL7.out.size)).alloc (Nat.le_trans hL7.out.size hb8.size) _⟩
end Go.Proofs.YtflbggehgjllcaaDoor
