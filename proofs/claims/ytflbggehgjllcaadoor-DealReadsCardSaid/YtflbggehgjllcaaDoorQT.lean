/- Both books beside each other; the law's do; DealDoes' walk. -/
import Derived.Test.YtflbggehgjllcaaDoorRO
import Derived.Test.YtflbggehgjllcaaDoorRI
import Derived.Test.YtflbggehgjllcaaDoorRF
import Derived.Test.YtflbggehgjllcaaDoorRH
import Derived.Test.YtflbggehgjllcaaDoorDZ
import Derived.Test.YtflbggehgjllcaaDoorQX
import Derived.Test.YtflbggehgjllcaaDoorUC
import Derived.Test.YtflbggehgjllcaaDoorRN
import Derived.Test.YtflbggehgjllcaaDoorRQ
namespace Go.Proofs.YtflbggehgjllcaaDoor
open Go.RowKit
set_option linter.unusedVariables false

/-- the program's book and the reference's, beside G's blocks, which stay -/
structure BB (G : Nat → Prop) (gb : Nat) (b : Bk) (rb : Nat) (c : Bk) (w : World) : Prop where
  ap : Apart G (fun P w => PB P w gb b) (fun P w => RB P w rb c) w
  lt : ∀ j, G j → j < w.heap.size
  okb : b.Ok
  okc : c.Ok
/-- a book with a row that it handed out -/
def PU (gb : Nat) (b : Bk) (u : Value) (zs : List Int) (P : Nat → Prop) (w : World) : Prop := PB P w gb b ∧ IRow w u zs ∧ ∀ g, u.ownBlock = some g → P g
def RU (rb : Nat) (b : Bk) (u : Value) (zs : List Int) (P : Nat → Prop) (w : World) : Prop := RB P w rb b ∧ IRow w u zs ∧ ∀ g, u.ownBlock = some g → P g
theorem PU.live (gb : Nat) (b : Bk) (u : Value) (zs : List Int) : Live (PU gb b u zs) :=
  ⟨fun ⟨h1, h2, h3⟩ hK hF => ⟨(PB.live gb b).kept h1 hK hF, orow_kp h2 hK fun g hg => hF g (World.ownsRow.lt h2 g hg).2 (h3 g hg), h3⟩, fun ⟨h1, h2, h3⟩ hq => ⟨(PB.live gb b).weak h1 hq, h2, fun g hg => hq g (World.ownsRow.lt h2 g hg).2 (h3 g hg)⟩⟩
theorem RU.live (gb : Nat) (b : Bk) (u : Value) (zs : List Int) : Live (RU gb b u zs) :=
  ⟨fun ⟨h1, h2, h3⟩ hK hF => ⟨(RB.live gb b).kept h1 hK hF, orow_kp h2 hK fun g hg => hF g (World.ownsRow.lt h2 g hg).2 (h3 g hg), h3⟩, fun ⟨h1, h2, h3⟩ hq => ⟨(RB.live gb b).weak h1 hq, h2, fun g hg => hq g (World.ownsRow.lt h2 g hg).2 (h3 g hg)⟩⟩
/-- both, and the row that the program's handed out -/
structure BU (G : Nat → Prop) (gb : Nat) (b : Bk) (u : Value) (zs : List Int) (rb : Nat) (c : Bk) (w : World) : Prop where
  ap : Apart G (PU gb b u zs) (fun P w => RB P w rb c) w
  lt : ∀ j, G j → j < w.heap.size
  okb : b.Ok
  okc : c.Ok
section
variable {G G' : Nat → Prop} {gb rb : Nat} {b b' c c' : Bk} {w w' : World} {u : Value} {zs : List Int}
theorem BB.below (h : BB G gb b rb c w) (hb : Below w.heap.size w w') : BB G gb b rb c w' := ⟨h.ap.below (PB.live gb b) (RB.live rb c) hb, fun j hj => Nat.lt_of_lt_of_le (h.lt j hj) hb.size, h.okb, h.okc⟩
theorem BB.more (h : BB G gb b rb c w) (hb : Below w.heap.size w w') (hG : ∀ j, j < w.heap.size → G' j → G j) (hl : ∀ j, G' j → j < w'.heap.size) : BB G' gb b rb c w' :=
  ⟨h.ap.more (PB.live gb b) (RB.live rb c) hb hG, hl, h.okb, h.okc⟩
theorem BB.less (h : BB G' gb b rb c w) (hG : ∀ j, G j → G' j) : BB G gb b rb c w := ⟨h.ap.less hG, fun j hj => h.lt j (hG j hj), h.okb, h.okc⟩
theorem BU.below (h : BU G gb b u zs rb c w) (hb : Below w.heap.size w w') : BU G gb b u zs rb c w' := ⟨h.ap.below (PU.live gb b u zs) (RB.live rb c) hb, fun j hj => Nat.lt_of_lt_of_le (h.lt j hj) hb.size, h.okb, h.okc⟩
theorem BB.pbk (h : BB G gb b rb c w) : ∃ P, PB P w gb b := by obtain ⟨PF, RF, h1, _⟩ := h.ap; exact ⟨PF, h1⟩
theorem BB.rbk (h : BB G gb b rb c w) : ∃ P, RB P w rb c := by obtain ⟨PF, RF, _, h1, _⟩ := h.ap; exact ⟨RF, h1⟩
theorem BB.pcall {f : FuncId} {args : Array Value} {φ : Ending → Prop} (h : BB G gb b rb c w) (ho : b'.Ok) (hc : ∀ P : Nat → Prop, PB P w gb b → (∀ i, w.heap.size ≤ i → P i) → Calls Tryd.prog f args w fun e w' => φ e ∧ PB P w' gb b' ∧ Kp P w w') :
    Calls Tryd.prog f args w fun e w' => φ e ∧ BB G gb b' rb c w' ∧ Kp (fun j => ¬ G j) w w' :=
  (Apart.call (α := Unit) (X' := fun _ P w => PB P w gb b') (φ := fun _ => φ) (PB.live gb b) (fun _ => PB.live gb b') (RB.live rb c) h.lt h.ap (fun P h1 h2 => (hc P h1 h2).mono fun e w' h => ⟨(), h⟩)).mono fun e w' ⟨_, h1, h2, h3⟩ => ⟨h1, ⟨h2, fun j hj => Nat.lt_of_lt_of_le (h.lt j hj) h3.size, ho, h.okc⟩, h3⟩
theorem BB.rcall {f : FuncId} {args : Array Value} {φ : Ending → Prop} (h : BB G gb b rb c w) (ho : c'.Ok) (hc : ∀ P : Nat → Prop, RB P w rb c → (∀ i, w.heap.size ≤ i → P i) → Calls Tryd.prog f args w fun e w' => φ e ∧ RB P w' rb c' ∧ Kp P w w') :
    Calls Tryd.prog f args w fun e w' => φ e ∧ BB G gb b rb c' w' ∧ Kp (fun j => ¬ G j) w w' :=
  (Apart.call (α := Unit) (X' := fun _ P w => RB P w rb c') (φ := fun _ => φ) (RB.live rb c) (fun _ => RB.live rb c') (PB.live gb b) h.lt h.ap.swap (fun P h1 h2 => (hc P h1 h2).mono fun e w' h => ⟨(), h⟩)).mono fun e w' ⟨_, h1, h2, h3⟩ => ⟨h1, ⟨h2.swap, fun j hj => Nat.lt_of_lt_of_le (h.lt j hj) h3.size, h.okb, ho⟩, h3⟩
theorem BB.psub (h : BB G gb b rb c w) (d : Dl) (hd : d.In) : Calls Tryd.prog 18 #[.pointer (some ⟨gb, 0, none⟩), d.val] w fun e w' => e = .returned (.tuple #[.bool (b.sub d).1.1, .int .i64 (b.sub d).1.2]) ∧ BB G gb (b.sub d).2 rb c w' ∧ Kp (fun j => ¬ G j) w w' :=
  h.pcall (sub_ok h.okb d hd) fun P hP hf => submit_any hP d hd.id h.okb.len (by have := h.okb.many.2; omega) hf
theorem BB.rsub (h : BB G gb b rb c w) (d : Dl) (hd : d.In) : Calls Tryd.prog 24 #[.pointer (some ⟨rb, 0, none⟩), d.val] w fun e w' => e = .returned (.tuple #[.bool (c.sub d).1.1, .int .i64 (c.sub d).1.2]) ∧ BB G gb b rb (c.sub d).2 w' ∧ Kp (fun j => ¬ G j) w w' :=
  h.rcall (sub_ok h.okc d hd) fun P hP hf => rsub_any hP d h.okc.len (by have := h.okc.many.2; omega) hf
theorem BB.pres (h : BB G gb b rb c w) (m id : Int) (hid : In64 id) : Calls Tryd.prog 20 #[.pointer (some ⟨gb, 0, none⟩), .int .i64 m, .int .i64 id] w fun e w' => e = .returned (.tuple #[.int .i64 (b.res m id).1.1, .int .i64 (b.res m id).1.2]) ∧ BB G gb (b.res m id).2 rb c w' ∧ Kp (fun j => ¬ G j) w w' :=
  h.pcall (res_ok h.okb m id) fun P hP hf => rescind_any hP m hid (by have := h.okb.len; omega) fun e he => ⟨(h.okb.may e he).2.2.2.1, En.may_ask (h.okb.may e he).2.2.1⟩
theorem BB.rres (h : BB G gb b rb c w) (m id : Int) : Calls Tryd.prog 25 #[.pointer (some ⟨rb, 0, none⟩), .int .i64 m, .int .i64 id] w fun e w' => e = .returned (.tuple #[.int .i64 (c.res m id).1.1, .int .i64 (c.res m id).1.2]) ∧ BB G gb b rb (c.res m id).2 w' ∧ Kp (fun j => ¬ G j) w w' :=
  h.rcall (res_ok h.okc m id) fun P hP hf => rrescind_any hP m id h.okc hf
theorem BB.pset (h : BB G gb b rb c w) (id : Int) (hid : In64 id) : Calls Tryd.prog 21 #[.pointer (some ⟨gb, 0, none⟩), .int .i64 id] w fun e w' => e = .returned (.int .i64 (b.set id).1) ∧ BB G gb (b.set id).2 rb c w' ∧ Kp (fun j => ¬ G j) w w' :=
  h.pcall (set_ok h.okb id) fun P hP hf => settle_any hP hid (by have := h.okb.len; omega)
theorem BB.rset (h : BB G gb b rb c w) (id : Int) : Calls Tryd.prog 26 #[.pointer (some ⟨rb, 0, none⟩), .int .i64 id] w fun e w' => e = .returned (.int .i64 (c.set id).1) ∧ BB G gb b rb (c.set id).2 w' ∧ Kp (fun j => ¬ G j) w w' :=
  h.rcall (set_ok h.okc id) fun P hP hf => rsettle_any hP id (by have := h.okc.len; omega) hf
theorem BB.prem (h : BB G gb b rb c w) (m : Int) : Calls Tryd.prog 23 #[.pointer (some ⟨gb, 0, none⟩), .int .i64 m] w fun e w' => ∃ u, e = .returned u ∧ BU G gb (b.rem m).2 u (b.rem m).1 rb c w' ∧ Kp (fun j => ¬ G j) w w' :=
  (Apart.call (α := Value) (X' := fun u => PU gb (b.rem m).2 u (b.rem m).1) (φ := fun u e => e = .returned u) (PB.live gb b) (fun u => PU.live gb (b.rem m).2 u (b.rem m).1) (RB.live rb c) h.lt h.ap (fun P h1 h2 => (remove_any h1 m (by have := h.okb.len; omega) h2).mono fun e w' ⟨u, k1, k2, k3, k4, k5⟩ => ⟨u, k1, ⟨k4, k2, fun g hg => h2 g (k3 g hg)⟩, k5⟩)).mono fun e w' ⟨u, h1, h2, h3⟩ => ⟨u, h1, ⟨h2, fun j hj => Nat.lt_of_lt_of_le (h.lt j hj) h3.size, rem_ok h.okb m, h.okc⟩, h3⟩
theorem BU.rrem (h : BU G gb b u zs rb c w) (m : Int) : Calls Tryd.prog 27 #[.pointer (some ⟨rb, 0, none⟩), .int .i64 m] w fun e w' => ∃ v, e = .returned v ∧ (IRow w' u zs ∧ IRow w' v (c.rem m).1 ∧ BB G gb b rb (c.rem m).2 w') ∧ Kp (fun j => ¬ G j) w w' :=
  (Apart.call (α := Value) (X' := fun v => RU rb (c.rem m).2 v (c.rem m).1) (φ := fun v e => e = .returned v) (RB.live rb c) (fun v => RU.live rb (c.rem m).2 v (c.rem m).1) (PU.live gb b u zs) h.lt h.ap.swap (fun P h1 h2 => (rrem_any h1 m (by have := h.okc.len; omega) h2).mono fun e w' ⟨u, k1, k2, k3, k4, k5⟩ => ⟨u, k1, ⟨k4, k2, fun g hg => h2 g (k3 g hg)⟩, k5⟩)).mono fun e w' ⟨v, h1, h2, h3⟩ => by
    have hp : IRow w' u zs := by obtain ⟨_, _, _, q, _⟩ := h2; exact q.2.1
    have hr : IRow w' v (c.rem m).1 := by obtain ⟨_, _, q, _⟩ := h2; exact q.2.1
    exact ⟨v, h1, ⟨hp, hr, ⟨((h2.map (X' := fun P w => RB P w rb (c.rem m).2) fun P hP => hP.1).swap.map (X' := fun P w => PB P w gb b) fun P hP => hP.1), fun j hj => Nat.lt_of_lt_of_le (h.lt j hj) h3.size, h.okb, rem_ok h.okc m⟩⟩, h3⟩
/-- an operation in its box -/
theorem BB.box (h : BB G gb b rb c w) (x : XOp) : BB (fun j => G j ∨ j = w.heap.size) gb b rb c (w.alloc (.cells x.arr 35)) :=
  h.more ((Below.refl _ _).alloc (Nat.le_refl _) _) (fun j hj hg => by rcases hg with h | h; exact h; omega) (fun j hg => by rcases hg with h1 | h1; have := h.lt j h1; simp; omega; simp; omega)
theorem op_box (x : XOp) {W : World} (hK : Kp (fun j => ¬ (G j ∨ j = w.heap.size)) (w.alloc (.cells x.arr 35)) W) : W.cell? ⟨w.heap.size, 0, none⟩ = some (.int .i64 x.Do) ∧ W.cell? ⟨w.heap.size, 1, none⟩ = some (.int .i64 x.m) ∧ W.cell? ⟨w.heap.size, 2, none⟩ = some (.int .i64 x.id) ∧ W.cell? ⟨w.heap.size, 3, none⟩ = some (.int .i64 x.d.id) ∧ W.cell? ⟨w.heap.size, 4, none⟩ = some (.int .i64 x.d.a) ∧ W.cell? ⟨w.heap.size, 5, none⟩ = some (.int .i64 x.d.b) ∧ W.cell? ⟨w.heap.size, 6, none⟩ = some (.int .i64 x.d.sc) ∧ W.cell? ⟨w.heap.size, 7, none⟩ = some (.int .i64 x.d.bc) ∧ W.cell? ⟨w.heap.size, 8, none⟩ = some (.int .i64 x.d.s) ∧ W.cell? ⟨w.heap.size, 9, none⟩ = some (.int .i64 x.d.t) := by
  have hn := (hK.block w.heap.size (by simp) (fun h => h (.inr rfl))).trans (heap_alloc_new w (.cells x.arr 35))
  exact ⟨obj_cell hn rfl, obj_cell hn rfl, obj_cell hn rfl, obj_cell hn rfl, obj_cell hn rfl, obj_cell hn rfl, obj_cell hn rfl, obj_cell hn rfl, obj_cell hn rfl, obj_cell hn rfl⟩
theorem kp_unbox {x : XOp} {W : World} (hK : Kp (fun j => ¬ (G j ∨ j = w.heap.size)) (w.alloc (.cells x.arr 35)) W) : Kp (fun j => ¬ G j) w W :=
  (Kp.of_below ((Below.refl w.heap.size w).alloc (Nat.le_refl _) _)).trans (hK.mono fun j _ hj hg => hj (.inl hg))
end
end Go.Proofs.YtflbggehgjllcaaDoor
namespace Go.Proofs.YtflbggehgjllcaaDoor
open Go.RowKit
set_option linter.unusedVariables false
section
variable {G : Nat → Prop} {gb rb : Nat} {b : Bk} {w : World}
set_option maxHeartbeats 8000000 in
set_option maxRecDepth 100000 in
theorem do_0 (h : BB G gb b rb b w) (x : XOp) (hx : x.In) (e0 : x.Do = 0) : Calls Tryd.prog 10 #[.pointer (some ⟨gb, 0, none⟩), .pointer (some ⟨rb, 0, none⟩), .agg x.arr] w fun e w' => e = .returned (.bool true) ∧ BB G gb (b.op x) rb (b.op x) w' ∧ Kp (fun j => ¬ G j) w w' := by
  have hop : b.op x = (b.sub x.d).2 := by unfold Bk.op; rw [if_pos e0]
  rw [hop]
  clear hop
  have h1 := h.box x
  have hbx := fun W hK => op_box (G := G) (w := w) x (W := W) hK
  have hun := fun W hK => kp_unbox (G := G) (w := w) (x := x) (W := W) hK
  obtain ⟨k0, k1, k2, k3, k4, k5, k6, k7, k8, k9⟩ := hbx _ (Kp.refl _ _)
  have c1 := h1.psub x.d hx.d
  have c2 := fun W (hW : BB (fun j => G j ∨ j = w.heap.size) gb (b.sub x.d).2 rb b W) => hW.rsub x.d hx.d
  unfold Dl.val at c1 c2
  generalize b.sub x.d = R at *
  have q0 : (x.Do == 0) = true := by simpa using e0
  obtain ⟨⟨r1, r2⟩, B⟩ := R
  dsimp only at c1 c2 ⊢
  unfold XOp.arr at *
  replace h1 := Lib.hid h1
  replace hbx := Lib.hid hbx
  replace hun := Lib.hid hun
  replace hx := Lib.hid hx
  replace h := Lib.hid h
  replace c1 := Lib.hid c1
  replace c2 := Lib.hid c2
  replace e0 := Lib.hid e0
  go_enter Tryd.func10, Tryd.ntmps10
  go_wp2_with (first | (go_at_call 18; (with_reducible refine c1.out.mono ?_); rintro e W2 ⟨rfl, hB, hK⟩; obtain ⟨j0, j1, j2, j3, j4, j5, j6, j7, j8, j9⟩ := hbx.out _ hK; replace hB := Lib.hid hB; replace hK := Lib.hid hK) | (go_at_call 24; (with_reducible refine (c2.out _ hB.out).mono ?_); rintro e W3 ⟨rfl, hD, hK3⟩; have hKK := Lib.hid (hK.out.trans hK3); replace hD := Lib.hid hD; clear hK3))
  go_ret
  exact ⟨rfl, hD.out.less fun j hj => .inl hj, hun.out _ hKK.out⟩
set_option maxHeartbeats 8000000 in
set_option maxRecDepth 100000 in
theorem do_1 (h : BB G gb b rb b w) (x : XOp) (hx : x.In) (e1 : x.Do = 1) : Calls Tryd.prog 10 #[.pointer (some ⟨gb, 0, none⟩), .pointer (some ⟨rb, 0, none⟩), .agg x.arr] w fun e w' => e = .returned (.bool true) ∧ BB G gb (b.op x) rb (b.op x) w' ∧ Kp (fun j => ¬ G j) w w' := by
  have hop : b.op x = (b.res x.m x.id).2 := by unfold Bk.op; rw [if_neg (by omega), if_pos e1]
  rw [hop]
  clear hop
  have h1 := h.box x
  have hbx := fun W hK => op_box (G := G) (w := w) x (W := W) hK
  have hun := fun W hK => kp_unbox (G := G) (w := w) (x := x) (W := W) hK
  obtain ⟨k0, k1, k2, k3, k4, k5, k6, k7, k8, k9⟩ := hbx _ (Kp.refl _ _)
  have c1 := h1.pres x.m x.id hx.id
  have c2 := fun W (hW : BB (fun j => G j ∨ j = w.heap.size) gb (b.res x.m x.id).2 rb b W) => hW.rres x.m x.id
  generalize b.res x.m x.id = R at *
  have q0 : (x.Do == 0) = false := by simp [e1]
  have q1 : (x.Do == 1) = true := by simpa using e1
  obtain ⟨⟨r1, r2⟩, B⟩ := R
  dsimp only at c1 c2 ⊢
  unfold XOp.arr at *
  replace h1 := Lib.hid h1
  replace hbx := Lib.hid hbx
  replace hun := Lib.hid hun
  replace hx := Lib.hid hx
  replace h := Lib.hid h
  replace c1 := Lib.hid c1
  replace c2 := Lib.hid c2
  replace e1 := Lib.hid e1
  go_enter Tryd.func10, Tryd.ntmps10
  go_wp2_with (first | (go_at_call 20; (with_reducible refine c1.out.mono ?_); rintro e W2 ⟨rfl, hB, hK⟩; obtain ⟨j0, j1, j2, j3, j4, j5, j6, j7, j8, j9⟩ := hbx.out _ hK; replace hB := Lib.hid hB; replace hK := Lib.hid hK) | (go_at_call 25; (with_reducible refine (c2.out _ hB.out).mono ?_); rintro e W3 ⟨rfl, hD, hK3⟩; have hKK := Lib.hid (hK.out.trans hK3); replace hD := Lib.hid hD; clear hK3))
  go_ret
  exact ⟨rfl, hD.out.less fun j hj => .inl hj, hun.out _ hKK.out⟩
end
end Go.Proofs.YtflbggehgjllcaaDoor
namespace Go.Proofs.YtflbggehgjllcaaDoor
open Go.RowKit
set_option linter.unusedVariables false
section
variable {G : Nat → Prop} {gb rb : Nat} {b : Bk} {w : World}
set_option maxHeartbeats 8000000 in
set_option maxRecDepth 100000 in
theorem do_2 (h : BB G gb b rb b w) (x : XOp) (hx : x.In) (e2 : x.Do = 2) : Calls Tryd.prog 10 #[.pointer (some ⟨gb, 0, none⟩), .pointer (some ⟨rb, 0, none⟩), .agg x.arr] w fun e w' => e = .returned (.bool true) ∧ BB G gb (b.op x) rb (b.op x) w' ∧ Kp (fun j => ¬ G j) w w' := by
  have hop : b.op x = (b.set x.id).2 := by unfold Bk.op; rw [if_neg (by omega), if_neg (by omega), if_pos e2]
  rw [hop]
  clear hop
  have h1 := h.box x
  have hbx := fun W hK => op_box (G := G) (w := w) x (W := W) hK
  have hun := fun W hK => kp_unbox (G := G) (w := w) (x := x) (W := W) hK
  obtain ⟨k0, k1, k2, k3, k4, k5, k6, k7, k8, k9⟩ := hbx _ (Kp.refl _ _)
  have q0 : (x.Do == 0) = false := by simp; omega
  have q1 : (x.Do == 1) = false := by simp; omega
  have q2 : (x.Do == 2) = true := by simpa using e2
  have c1 := fun W (hW : BB (fun j => G j ∨ j = w.heap.size) gb b rb b W) => hW.pset x.id hx.id
  have c2 := fun W (hW : BB (fun j => G j ∨ j = w.heap.size) gb (b.set x.id).2 rb b W) => hW.rset x.id
  generalize b.set x.id = R at *
  obtain ⟨r1, B⟩ := R
  dsimp only at c1 c2 ⊢
  unfold XOp.arr at *
  replace h1 := Lib.hid h1
  replace hbx := Lib.hid hbx
  replace hun := Lib.hid hun
  replace hx := Lib.hid hx
  replace h := Lib.hid h
  replace c1 := Lib.hid c1
  replace c2 := Lib.hid c2
  replace e2 := Lib.hid e2
  go_enter Tryd.func10, Tryd.ntmps10
  go_upto_region 11 with fail
  generalize w.alloc _ = W at *
  refine wp_region_closed (by kernel_rfl) (fun L az wz => ∃ v6 v74 v75 v76 v77 v78 v79 v80 v81 v82 : Value, az = ({ tmps := (Value.pointer (some ⟨gb, 0, none⟩) :: Value.pointer (some ⟨rb, 0, none⟩) :: Value.agg #[Value.int IntKind.i64 x.Do, Value.int IntKind.i64 x.m, Value.int IntKind.i64 x.id, Value.int IntKind.i64 x.d.id, Value.int IntKind.i64 x.d.a, Value.int IntKind.i64 x.d.b, Value.int IntKind.i64 x.d.sc, Value.int IntKind.i64 x.d.bc, Value.int IntKind.i64 x.d.s, Value.int IntKind.i64 x.d.t] :: undef :: undef :: Value.pointer (some ⟨w.heap.size, 0, none⟩) :: v6 :: undef :: undef :: undef :: undef :: undef :: undef :: undef :: undef :: undef :: undef :: undef :: Value.pointer (some ⟨w.heap.size, 0, none⟩) :: Value.int IntKind.i64 x.Do :: Value.bool false :: Value.bool false :: undef :: undef :: undef :: undef :: undef :: undef :: undef :: undef :: undef :: undef :: undef :: undef :: undef :: undef :: undef :: undef :: undef :: undef :: undef :: undef :: undef :: undef :: Value.bool false :: Value.bool false :: undef :: undef :: undef :: undef :: undef :: undef :: undef :: undef :: undef :: undef :: undef :: undef :: undef :: undef :: undef :: undef :: undef :: undef :: undef :: undef :: undef :: undef :: undef :: undef :: undef :: undef :: Value.bool true :: Value.bool true :: v74 :: v75 :: v76 :: v77 :: v78 :: v79 :: v80 :: v81 :: v82 :: undef :: undef :: undef :: undef :: undef :: undef :: undef :: undef :: undef :: undef :: undef :: undef :: undef :: undef :: undef :: undef :: undef :: undef :: undef :: undef :: undef :: undef :: undef :: undef :: undef :: undef :: undef :: undef :: undef :: undef :: undef :: undef :: undef :: undef :: undef :: undef :: undef :: undef :: undef :: undef :: undef :: undef :: undef :: undef :: undef :: undef :: undef :: undef :: undef :: undef :: undef :: undef :: undef :: undef :: undef :: undef :: undef :: undef :: undef :: undef :: undef :: undef :: undef :: undef :: undef :: undef :: []).toArray, defers := [] } : Act) ∧ (Kp (fun j => ¬ (G j ∨ j = w.heap.size)) W wz) ∧ (L 3 = false → BB (fun j => G j ∨ j = w.heap.size) gb b rb b wz) ∧ (L 3 = true → L 7 = false → BB (fun j => G j ∨ j = w.heap.size) gb B rb b wz) ∧ (L 7 = true → BB (fun j => G j ∨ j = w.heap.size) gb B rb B wz) ∧ (L 9 = false → v6 = Value.bool false) ∧ (L 9 = true → v6 = Value.bool true) ∧ (L 0 = true → v74 = Value.pointer (some ⟨gb, 0, none⟩)) ∧ (L 1 = true → v75 = Value.pointer (some ⟨w.heap.size, 2, none⟩)) ∧ (L 2 = true → v76 = Value.int IntKind.i64 x.id) ∧ (L 3 = true → v77 = Value.int IntKind.i64 r1) ∧ (L 4 = true → v78 = Value.pointer (some ⟨rb, 0, none⟩)) ∧ (L 5 = true → v79 = Value.pointer (some ⟨w.heap.size, 2, none⟩)) ∧ (L 6 = true → v80 = Value.int IntKind.i64 x.id) ∧ (L 7 = true → v81 = Value.int IntKind.i64 r1) ∧ (L 8 = true → v82 = Value.bool true)) (by kernel_rfl) ?_ ?_ ?_
  · exact ⟨_, _, _, _, _, _, _, _, _, _, rfl, (Kp.refl _ _).drew, fun _ => h1.out.below (Below.refl _ _).drew, nofun, nofun, fun _ => rfl, nofun, nofun, nofun, nofun, nofun, nofun, nofun, nofun, nofun, nofun⟩
  · intro L az wz iz hiz hni hI hdep hcl
    obtain ⟨v6, v74, v75, v76, v77, v78, v79, v80, v81, v82, rfl, hK, hA, hB, hC, h6, hz, k0, k1, k2, k3, k4, k5, k6, k7, k8⟩ := hI
    have hcase : iz = 0 ∨ iz = 1 ∨ iz = 2 ∨ iz = 3 ∨ iz = 4 ∨ iz = 5 ∨ iz = 6 ∨ iz = 7 ∨ iz = 8 ∨ iz = 9 := by
      have hi2 : iz < 10 := hiz
      omega
    rcases hcase with rfl | rfl | rfl | rfl | rfl | rfl | rfl | rfl | rfl | rfl
    · -- 0
      refine wpOp_step rfl fun Kz hKz => ?_
      go_simp
      exact hKz _ _ ⟨_, _, _, _, _, _, _, _, _, _, rfl, hK, fun f => hA (add_nf f), fun e f => hB (add_ne e (by decide)) (add_nf f), fun e => hC (add_ne e (by decide)), fun f => h6 (add_nf f), fun e => hz (add_ne e (by decide)), fun _ => rfl, fun e => k1 (add_ne e (by decide)), fun e => k2 (add_ne e (by decide)), fun e => k3 (add_ne e (by decide)), fun e => k4 (add_ne e (by decide)), fun e => k5 (add_ne e (by decide)), fun e => k6 (add_ne e (by decide)), fun e => k7 (add_ne e (by decide)), fun e => k8 (add_ne e (by decide))⟩
    · -- 1
      refine wpOp_step rfl fun Kz hKz => ?_
      go_simp
      exact hKz _ _ ⟨_, _, _, _, _, _, _, _, _, _, rfl, hK, fun f => hA (add_nf f), fun e f => hB (add_ne e (by decide)) (add_nf f), fun e => hC (add_ne e (by decide)), fun f => h6 (add_nf f), fun e => hz (add_ne e (by decide)), fun e => k0 (add_ne e (by decide)), fun _ => rfl, fun e => k2 (add_ne e (by decide)), fun e => k3 (add_ne e (by decide)), fun e => k4 (add_ne e (by decide)), fun e => k5 (add_ne e (by decide)), fun e => k6 (add_ne e (by decide)), fun e => k7 (add_ne e (by decide)), fun e => k8 (add_ne e (by decide))⟩
    · -- 2
      have e1 := k1 (hdep 1 (by decide +kernel))
      subst e1
      obtain ⟨z0, z1, z2, z3, z4, z5, z6, z7, z8, z9⟩ := hbx.out _ hK
      refine wpOp_step rfl fun Kz hKz => ?_
      go_simp
      exact hKz _ _ ⟨_, _, _, _, _, _, _, _, _, _, rfl, hK, fun f => hA (add_nf f), fun e f => hB (add_ne e (by decide)) (add_nf f), fun e => hC (add_ne e (by decide)), fun f => h6 (add_nf f), fun e => hz (add_ne e (by decide)), fun e => k0 (add_ne e (by decide)), fun e => k1 (add_ne e (by decide)), fun _ => rfl, fun e => k3 (add_ne e (by decide)), fun e => k4 (add_ne e (by decide)), fun e => k5 (add_ne e (by decide)), fun e => k6 (add_ne e (by decide)), fun e => k7 (add_ne e (by decide)), fun e => k8 (add_ne e (by decide))⟩
    · -- 3
      have hf7 : L 7 = false := by
        cases h : L 7 with
        | false => rfl
        | true => have := hcl 7 (h) 3 (by decide +kernel); rw [hni] at this; cases this
      have e0 := k0 (hdep 0 (by decide +kernel))
      subst e0
      have e2 := k2 (hdep 2 (by decide +kernel))
      subst e2
      refine wpOp_step rfl fun Kz hKz => ?_
      go_simp
      go_at_call 21
      refine (c1.out _ (hA hni)).mono ?_
      rintro e w1 ⟨rfl, hBn, hKn⟩
      have hK2 := hK.trans hKn
      go_simp
      exact hKz _ _ ⟨_, _, _, _, _, _, _, _, _, _, rfl, hK2, fun f => (by rw [show add L 3 3 = true from add_iff.2 (.inr rfl)] at f; cases f), fun _ _ => hBn, fun e => absurd (add_ne e (by decide)) (by rw [hf7]; decide), fun f => h6 (add_nf f), fun e => hz (add_ne e (by decide)), fun e => k0 (add_ne e (by decide)), fun e => k1 (add_ne e (by decide)), fun e => k2 (add_ne e (by decide)), fun _ => rfl, fun e => k4 (add_ne e (by decide)), fun e => k5 (add_ne e (by decide)), fun e => k6 (add_ne e (by decide)), fun e => k7 (add_ne e (by decide)), fun e => k8 (add_ne e (by decide))⟩
    · -- 4
      refine wpOp_step rfl fun Kz hKz => ?_
      go_simp
      exact hKz _ _ ⟨_, _, _, _, _, _, _, _, _, _, rfl, hK, fun f => hA (add_nf f), fun e f => hB (add_ne e (by decide)) (add_nf f), fun e => hC (add_ne e (by decide)), fun f => h6 (add_nf f), fun e => hz (add_ne e (by decide)), fun e => k0 (add_ne e (by decide)), fun e => k1 (add_ne e (by decide)), fun e => k2 (add_ne e (by decide)), fun e => k3 (add_ne e (by decide)), fun _ => rfl, fun e => k5 (add_ne e (by decide)), fun e => k6 (add_ne e (by decide)), fun e => k7 (add_ne e (by decide)), fun e => k8 (add_ne e (by decide))⟩
    · -- 5
      refine wpOp_step rfl fun Kz hKz => ?_
      go_simp
      exact hKz _ _ ⟨_, _, _, _, _, _, _, _, _, _, rfl, hK, fun f => hA (add_nf f), fun e f => hB (add_ne e (by decide)) (add_nf f), fun e => hC (add_ne e (by decide)), fun f => h6 (add_nf f), fun e => hz (add_ne e (by decide)), fun e => k0 (add_ne e (by decide)), fun e => k1 (add_ne e (by decide)), fun e => k2 (add_ne e (by decide)), fun e => k3 (add_ne e (by decide)), fun e => k4 (add_ne e (by decide)), fun _ => rfl, fun e => k6 (add_ne e (by decide)), fun e => k7 (add_ne e (by decide)), fun e => k8 (add_ne e (by decide))⟩
    · -- 6
      have e5 := k5 (hdep 5 (by decide +kernel))
      subst e5
      obtain ⟨z0, z1, z2, z3, z4, z5, z6, z7, z8, z9⟩ := hbx.out _ hK
      refine wpOp_step rfl fun Kz hKz => ?_
      go_simp
      exact hKz _ _ ⟨_, _, _, _, _, _, _, _, _, _, rfl, hK, fun f => hA (add_nf f), fun e f => hB (add_ne e (by decide)) (add_nf f), fun e => hC (add_ne e (by decide)), fun f => h6 (add_nf f), fun e => hz (add_ne e (by decide)), fun e => k0 (add_ne e (by decide)), fun e => k1 (add_ne e (by decide)), fun e => k2 (add_ne e (by decide)), fun e => k3 (add_ne e (by decide)), fun e => k4 (add_ne e (by decide)), fun e => k5 (add_ne e (by decide)), fun _ => rfl, fun e => k7 (add_ne e (by decide)), fun e => k8 (add_ne e (by decide))⟩
    · -- 7
      have t3 := hdep 3 (by decide +kernel)
      have e3 := k3 (hdep 3 (by decide +kernel))
      subst e3
      have e4 := k4 (hdep 4 (by decide +kernel))
      subst e4
      have e6 := k6 (hdep 6 (by decide +kernel))
      subst e6
      refine wpOp_step rfl fun Kz hKz => ?_
      go_simp
      go_at_call 26
      refine (c2.out _ (hB t3 hni)).mono ?_
      rintro e w1 ⟨rfl, hBn, hKn⟩
      have hK2 := hK.trans hKn
      go_simp
      exact hKz _ _ ⟨_, _, _, _, _, _, _, _, _, _, rfl, hK2, fun f => absurd t3 (by rw [add_nf f]; decide), fun _ f => (by rw [show add L 7 7 = true from add_iff.2 (.inr rfl)] at f; cases f), fun _ => hBn, fun f => h6 (add_nf f), fun e => hz (add_ne e (by decide)), fun e => k0 (add_ne e (by decide)), fun e => k1 (add_ne e (by decide)), fun e => k2 (add_ne e (by decide)), fun e => k3 (add_ne e (by decide)), fun e => k4 (add_ne e (by decide)), fun e => k5 (add_ne e (by decide)), fun e => k6 (add_ne e (by decide)), fun _ => rfl, fun e => k8 (add_ne e (by decide))⟩
    · -- 8
      have e3 := k3 (hdep 3 (by decide +kernel))
      subst e3
      have e7 := k7 (hdep 7 (by decide +kernel))
      subst e7
      refine wpOp_step rfl fun Kz hKz => ?_
      go_simp
      exact hKz _ _ ⟨_, _, _, _, _, _, _, _, _, _, rfl, hK, fun f => hA (add_nf f), fun e f => hB (add_ne e (by decide)) (add_nf f), fun e => hC (add_ne e (by decide)), fun f => h6 (add_nf f), fun e => hz (add_ne e (by decide)), fun e => k0 (add_ne e (by decide)), fun e => k1 (add_ne e (by decide)), fun e => k2 (add_ne e (by decide)), fun e => k3 (add_ne e (by decide)), fun e => k4 (add_ne e (by decide)), fun e => k5 (add_ne e (by decide)), fun e => k6 (add_ne e (by decide)), fun e => k7 (add_ne e (by decide)), fun _ => rfl⟩
    · -- 9
      have e8 := k8 (hdep 8 (by decide +kernel))
      subst e8
      refine wpOp_step rfl fun Kz hKz => ?_
      go_simp
      exact hKz _ _ ⟨_, _, _, _, _, _, _, _, _, _, rfl, hK, fun f => hA (add_nf f), fun e f => hB (add_ne e (by decide)) (add_nf f), fun e => hC (add_ne e (by decide)), fun f => (by rw [show add L 9 9 = true from add_iff.2 (.inr rfl)] at f; cases f), fun _ => rfl, fun e => k0 (add_ne e (by decide)), fun e => k1 (add_ne e (by decide)), fun e => k2 (add_ne e (by decide)), fun e => k3 (add_ne e (by decide)), fun e => k4 (add_ne e (by decide)), fun e => k5 (add_ne e (by decide)), fun e => k6 (add_ne e (by decide)), fun e => k7 (add_ne e (by decide)), fun e => k8 (add_ne e (by decide))⟩
  · intro L az wz hI hL
    obtain ⟨v6, v74, v75, v76, v77, v78, v79, v80, v81, v82, rfl, hK, hA, hB, hC, h6, hz, k0, k1, k2, k3, k4, k5, k6, k7, k8⟩ := hI
    have e6 := hz (hL 9 (by decide))
    subst e6
    have hD := hC (hL 7 (by decide))
    replace hD := Lib.hid hD
    have hKK := Lib.hid hK
    clear h6 hz hA hB hC hL hK
    go_wp2_with fail
    go_ret
    exact ⟨rfl, hD.out.less fun j hj => .inl hj, hun.out _ hKK.out⟩
end
end Go.Proofs.YtflbggehgjllcaaDoor
namespace Go.Proofs.YtflbggehgjllcaaDoor
open Go.RowKit
set_option linter.unusedVariables false
section
variable {G : Nat → Prop} {gb rb : Nat} {b : Bk} {w : World}
set_option maxHeartbeats 8000000 in
set_option maxRecDepth 100000 in
theorem do_3 (h : BB G gb b rb b w) (x : XOp) (hx : x.In) (e3 : x.Do = 3) : Calls Tryd.prog 10 #[.pointer (some ⟨gb, 0, none⟩), .pointer (some ⟨rb, 0, none⟩), .agg x.arr] w fun e w' => e = .returned (.bool true) ∧ BB G gb (b.op x) rb (b.op x) w' ∧ Kp (fun j => ¬ G j) w w' := by
  have hop : b.op x = (b.rem x.m).2 := by unfold Bk.op; rw [if_neg (by omega), if_neg (by omega), if_neg (by omega), if_pos e3]
  rw [hop]
  clear hop
  have h1 := h.box x
  have hbx := fun W hK => op_box (G := G) (w := w) x (W := W) hK
  have hun := fun W hK => kp_unbox (G := G) (w := w) (x := x) (W := W) hK
  obtain ⟨k0, k1, k2, k3, k4, k5, k6, k7, k8, k9⟩ := hbx _ (Kp.refl _ _)
  have q0 : (x.Do == 0) = false := by simp; omega
  have q1 : (x.Do == 1) = false := by simp; omega
  have q2 : (x.Do == 2) = false := by simp; omega
  have q3 : (x.Do == 3) = true := by simpa using e3
  have hlen : (b.rem x.m).1.length ≤ 1000000 := by have := h.okb.len; unfold Bk.rem; dsimp only; rw [List.length_map]; exact Nat.le_trans (List.length_filter_le _ _) (by omega)
  have c1 := fun W (hW : BB (fun j => G j ∨ j = w.heap.size) gb b rb b W) => hW.prem x.m
  have c2 := fun W u (hW : BU (fun j => G j ∨ j = w.heap.size) gb (b.rem x.m).2 u (b.rem x.m).1 rb b W) => hW.rrem x.m
  have c3 : ∀ (W : World) (u v : Value), IRow W u (b.rem x.m).1 → IRow W v (b.rem x.m).1 → Calls Tryd.prog 13 #[u, v] W fun e w' => e = .returned (.bool true) ∧ Below W.heap.size W w' := fun W u v hu hv => (same_any u v _ _ W hu hv hlen hlen).mono fun e w' ⟨q1, n, q2⟩ => ⟨by rw [q1]; simp, by rw [q2]; exact ⟨rfl, rfl, rfl, Nat.le_refl _, fun _ _ => rfl⟩⟩
  generalize b.rem x.m = R at *
  obtain ⟨zs, B⟩ := R
  dsimp only at c1 c2 c3 hlen ⊢
  unfold XOp.arr at *
  replace h1 := Lib.hid h1
  replace hbx := Lib.hid hbx
  replace hun := Lib.hid hun
  replace hx := Lib.hid hx
  replace h := Lib.hid h
  replace c1 := Lib.hid c1
  replace c2 := Lib.hid c2
  replace c3 := Lib.hid c3
  replace e3 := Lib.hid e3
  replace hlen := Lib.hid hlen
  go_enter Tryd.func10, Tryd.ntmps10
  go_upto_region 13 with fail
  generalize w.alloc _ = W at *
  refine wp_region_closed (by kernel_rfl) (fun L az wz => ∃ v6 v85 v86 v87 v88 v89 v90 v91 v92 v93 : Value, az = ({ tmps := (Value.pointer (some ⟨gb, 0, none⟩) :: Value.pointer (some ⟨rb, 0, none⟩) :: Value.agg #[Value.int IntKind.i64 x.Do, Value.int IntKind.i64 x.m, Value.int IntKind.i64 x.id, Value.int IntKind.i64 x.d.id, Value.int IntKind.i64 x.d.a, Value.int IntKind.i64 x.d.b, Value.int IntKind.i64 x.d.sc, Value.int IntKind.i64 x.d.bc, Value.int IntKind.i64 x.d.s, Value.int IntKind.i64 x.d.t] :: undef :: undef :: Value.pointer (some ⟨w.heap.size, 0, none⟩) :: v6 :: undef :: undef :: undef :: undef :: undef :: undef :: undef :: undef :: undef :: undef :: undef :: Value.pointer (some ⟨w.heap.size, 0, none⟩) :: Value.int IntKind.i64 x.Do :: Value.bool false :: Value.bool false :: undef :: undef :: undef :: undef :: undef :: undef :: undef :: undef :: undef :: undef :: undef :: undef :: undef :: undef :: undef :: undef :: undef :: undef :: undef :: undef :: undef :: undef :: Value.bool false :: Value.bool false :: undef :: undef :: undef :: undef :: undef :: undef :: undef :: undef :: undef :: undef :: undef :: undef :: undef :: undef :: undef :: undef :: undef :: undef :: undef :: undef :: undef :: undef :: undef :: undef :: undef :: undef :: Value.bool false :: Value.bool false :: undef :: undef :: undef :: undef :: undef :: undef :: undef :: undef :: undef :: Value.bool true :: Value.bool true :: v85 :: v86 :: v87 :: v88 :: v89 :: v90 :: v91 :: v92 :: v93 :: undef :: undef :: undef :: undef :: undef :: undef :: undef :: undef :: undef :: undef :: undef :: undef :: undef :: undef :: undef :: undef :: undef :: undef :: undef :: undef :: undef :: undef :: undef :: undef :: undef :: undef :: undef :: undef :: undef :: undef :: undef :: undef :: undef :: undef :: undef :: undef :: undef :: undef :: undef :: undef :: undef :: undef :: undef :: undef :: undef :: undef :: undef :: undef :: undef :: undef :: undef :: undef :: undef :: undef :: undef :: []).toArray, defers := [] } : Act) ∧ (Kp (fun j => ¬ (G j ∨ j = w.heap.size)) W wz) ∧ (L 3 = false → BB (fun j => G j ∨ j = w.heap.size) gb b rb b wz) ∧ (L 3 = true → L 7 = false → BU (fun j => G j ∨ j = w.heap.size) gb B v88 zs rb b wz) ∧ (L 7 = true → (IRow wz v88 zs ∧ IRow wz v92 zs ∧ BB (fun j => G j ∨ j = w.heap.size) gb B rb B wz)) ∧ (L 9 = false → v6 = Value.bool false) ∧ (L 9 = true → v6 = Value.bool true) ∧ (L 0 = true → v85 = Value.pointer (some ⟨gb, 0, none⟩)) ∧ (L 1 = true → v86 = Value.pointer (some ⟨w.heap.size, 1, none⟩)) ∧ (L 2 = true → v87 = Value.int IntKind.i64 x.m) ∧ (L 4 = true → v89 = Value.pointer (some ⟨rb, 0, none⟩)) ∧ (L 5 = true → v90 = Value.pointer (some ⟨w.heap.size, 1, none⟩)) ∧ (L 6 = true → v91 = Value.int IntKind.i64 x.m) ∧ (L 8 = true → v93 = Value.bool true)) (by kernel_rfl) ?_ ?_ ?_
  · exact ⟨_, _, _, _, _, _, _, _, _, _, rfl, (Kp.refl _ _).drew, fun _ => h1.out.below (Below.refl _ _).drew, nofun, nofun, fun _ => rfl, nofun, nofun, nofun, nofun, nofun, nofun, nofun, nofun⟩
  · intro L az wz iz hiz hni hI hdep hcl
    obtain ⟨v6, v85, v86, v87, v88, v89, v90, v91, v92, v93, rfl, hK, hA, hB, hC, h6, hz, k0, k1, k2, k4, k5, k6, k8⟩ := hI
    have hcase : iz = 0 ∨ iz = 1 ∨ iz = 2 ∨ iz = 3 ∨ iz = 4 ∨ iz = 5 ∨ iz = 6 ∨ iz = 7 ∨ iz = 8 ∨ iz = 9 := by
      have hi2 : iz < 10 := hiz
      omega
    rcases hcase with rfl | rfl | rfl | rfl | rfl | rfl | rfl | rfl | rfl | rfl
    · -- 0
      refine wpOp_step rfl fun Kz hKz => ?_
      go_simp
      exact hKz _ _ ⟨_, _, _, _, _, _, _, _, _, _, rfl, hK, fun f => hA (add_nf f), fun e f => hB (add_ne e (by decide)) (add_nf f), fun e => hC (add_ne e (by decide)), fun f => h6 (add_nf f), fun e => hz (add_ne e (by decide)), fun _ => rfl, fun e => k1 (add_ne e (by decide)), fun e => k2 (add_ne e (by decide)), fun e => k4 (add_ne e (by decide)), fun e => k5 (add_ne e (by decide)), fun e => k6 (add_ne e (by decide)), fun e => k8 (add_ne e (by decide))⟩
    · -- 1
      refine wpOp_step rfl fun Kz hKz => ?_
      go_simp
      exact hKz _ _ ⟨_, _, _, _, _, _, _, _, _, _, rfl, hK, fun f => hA (add_nf f), fun e f => hB (add_ne e (by decide)) (add_nf f), fun e => hC (add_ne e (by decide)), fun f => h6 (add_nf f), fun e => hz (add_ne e (by decide)), fun e => k0 (add_ne e (by decide)), fun _ => rfl, fun e => k2 (add_ne e (by decide)), fun e => k4 (add_ne e (by decide)), fun e => k5 (add_ne e (by decide)), fun e => k6 (add_ne e (by decide)), fun e => k8 (add_ne e (by decide))⟩
    · -- 2
      have e1 := k1 (hdep 1 (by decide +kernel))
      subst e1
      obtain ⟨z0, z1, z2, z3, z4, z5, z6, z7, z8, z9⟩ := hbx.out _ hK
      refine wpOp_step rfl fun Kz hKz => ?_
      go_simp
      exact hKz _ _ ⟨_, _, _, _, _, _, _, _, _, _, rfl, hK, fun f => hA (add_nf f), fun e f => hB (add_ne e (by decide)) (add_nf f), fun e => hC (add_ne e (by decide)), fun f => h6 (add_nf f), fun e => hz (add_ne e (by decide)), fun e => k0 (add_ne e (by decide)), fun e => k1 (add_ne e (by decide)), fun _ => rfl, fun e => k4 (add_ne e (by decide)), fun e => k5 (add_ne e (by decide)), fun e => k6 (add_ne e (by decide)), fun e => k8 (add_ne e (by decide))⟩
    · -- 3
      have hf7 : L 7 = false := by
        cases h : L 7 with
        | false => rfl
        | true => have := hcl 7 (h) 3 (by decide +kernel); rw [hni] at this; cases this
      have e0 := k0 (hdep 0 (by decide +kernel))
      subst e0
      have e2 := k2 (hdep 2 (by decide +kernel))
      subst e2
      refine wpOp_step rfl fun Kz hKz => ?_
      go_simp
      go_at_call 23
      refine (c1.out _ (hA hni)).mono ?_
      rintro e w1 ⟨u, rfl, hBn, hKn⟩
      have hK2 := hK.trans hKn
      go_simp
      exact hKz _ _ ⟨_, _, _, _, _, _, _, _, _, _, rfl, hK2, fun f => (by rw [show add L 3 3 = true from add_iff.2 (.inr rfl)] at f; cases f), fun _ _ => hBn, fun e => absurd (add_ne e (by decide)) (by rw [hf7]; decide), fun f => h6 (add_nf f), fun e => hz (add_ne e (by decide)), fun e => k0 (add_ne e (by decide)), fun e => k1 (add_ne e (by decide)), fun e => k2 (add_ne e (by decide)), fun e => k4 (add_ne e (by decide)), fun e => k5 (add_ne e (by decide)), fun e => k6 (add_ne e (by decide)), fun e => k8 (add_ne e (by decide))⟩
    · -- 4
      refine wpOp_step rfl fun Kz hKz => ?_
      go_simp
      exact hKz _ _ ⟨_, _, _, _, _, _, _, _, _, _, rfl, hK, fun f => hA (add_nf f), fun e f => hB (add_ne e (by decide)) (add_nf f), fun e => hC (add_ne e (by decide)), fun f => h6 (add_nf f), fun e => hz (add_ne e (by decide)), fun e => k0 (add_ne e (by decide)), fun e => k1 (add_ne e (by decide)), fun e => k2 (add_ne e (by decide)), fun _ => rfl, fun e => k5 (add_ne e (by decide)), fun e => k6 (add_ne e (by decide)), fun e => k8 (add_ne e (by decide))⟩
    · -- 5
      refine wpOp_step rfl fun Kz hKz => ?_
      go_simp
      exact hKz _ _ ⟨_, _, _, _, _, _, _, _, _, _, rfl, hK, fun f => hA (add_nf f), fun e f => hB (add_ne e (by decide)) (add_nf f), fun e => hC (add_ne e (by decide)), fun f => h6 (add_nf f), fun e => hz (add_ne e (by decide)), fun e => k0 (add_ne e (by decide)), fun e => k1 (add_ne e (by decide)), fun e => k2 (add_ne e (by decide)), fun e => k4 (add_ne e (by decide)), fun _ => rfl, fun e => k6 (add_ne e (by decide)), fun e => k8 (add_ne e (by decide))⟩
    · -- 6
      have e5 := k5 (hdep 5 (by decide +kernel))
      subst e5
      obtain ⟨z0, z1, z2, z3, z4, z5, z6, z7, z8, z9⟩ := hbx.out _ hK
      refine wpOp_step rfl fun Kz hKz => ?_
      go_simp
      exact hKz _ _ ⟨_, _, _, _, _, _, _, _, _, _, rfl, hK, fun f => hA (add_nf f), fun e f => hB (add_ne e (by decide)) (add_nf f), fun e => hC (add_ne e (by decide)), fun f => h6 (add_nf f), fun e => hz (add_ne e (by decide)), fun e => k0 (add_ne e (by decide)), fun e => k1 (add_ne e (by decide)), fun e => k2 (add_ne e (by decide)), fun e => k4 (add_ne e (by decide)), fun e => k5 (add_ne e (by decide)), fun _ => rfl, fun e => k8 (add_ne e (by decide))⟩
    · -- 7
      have t3 := hdep 3 (by decide +kernel)
      have e4 := k4 (hdep 4 (by decide +kernel))
      subst e4
      have e6 := k6 (hdep 6 (by decide +kernel))
      subst e6
      refine wpOp_step rfl fun Kz hKz => ?_
      go_simp
      go_at_call 27
      refine (c2.out _ _ (hB t3 hni)).mono ?_
      rintro e w1 ⟨u, rfl, hBn, hKn⟩
      have hK2 := hK.trans hKn
      go_simp
      exact hKz _ _ ⟨_, _, _, _, _, _, _, _, _, _, rfl, hK2, fun f => absurd t3 (by rw [add_nf f]; decide), fun _ f => (by rw [show add L 7 7 = true from add_iff.2 (.inr rfl)] at f; cases f), fun _ => hBn, fun f => h6 (add_nf f), fun e => hz (add_ne e (by decide)), fun e => k0 (add_ne e (by decide)), fun e => k1 (add_ne e (by decide)), fun e => k2 (add_ne e (by decide)), fun e => k4 (add_ne e (by decide)), fun e => k5 (add_ne e (by decide)), fun e => k6 (add_ne e (by decide)), fun e => k8 (add_ne e (by decide))⟩
    · -- 8
      have t7 := hdep 7 (by decide +kernel)
      have t3 := hcl 7 t7 3 (by decide +kernel)
      obtain ⟨n1, n2, n3⟩ := hC t7
      refine wpOp_step rfl fun Kz hKz => ?_
      go_simp
      go_at_call 13
      refine (c3.out _ _ _ n1 n2).mono ?_
      rintro e w1 ⟨rfl, hb1⟩
      have hK2 := hK.trans (Kp.of_below hb1)
      have hC2 := And.intro (orow_kp n1 (Kp.of_below (F := fun _ => False) hb1) (fun _ _ h => h)) (And.intro (orow_kp n2 (Kp.of_below (F := fun _ => False) hb1) (fun _ _ h => h)) (n3.below hb1))
      go_simp
      exact hKz _ _ ⟨_, _, _, _, _, _, _, _, _, _, rfl, hK2, fun f => absurd t3 (by rw [add_nf f]; decide), fun _ f => absurd t7 (by rw [add_nf f]; decide), fun _ => hC2, fun f => h6 (add_nf f), fun e => hz (add_ne e (by decide)), fun e => k0 (add_ne e (by decide)), fun e => k1 (add_ne e (by decide)), fun e => k2 (add_ne e (by decide)), fun e => k4 (add_ne e (by decide)), fun e => k5 (add_ne e (by decide)), fun e => k6 (add_ne e (by decide)), fun _ => rfl⟩
    · -- 9
      have e8 := k8 (hdep 8 (by decide +kernel))
      subst e8
      refine wpOp_step rfl fun Kz hKz => ?_
      go_simp
      exact hKz _ _ ⟨_, _, _, _, _, _, _, _, _, _, rfl, hK, fun f => hA (add_nf f), fun e f => hB (add_ne e (by decide)) (add_nf f), fun e => hC (add_ne e (by decide)), fun f => (by rw [show add L 9 9 = true from add_iff.2 (.inr rfl)] at f; cases f), fun _ => rfl, fun e => k0 (add_ne e (by decide)), fun e => k1 (add_ne e (by decide)), fun e => k2 (add_ne e (by decide)), fun e => k4 (add_ne e (by decide)), fun e => k5 (add_ne e (by decide)), fun e => k6 (add_ne e (by decide)), fun e => k8 (add_ne e (by decide))⟩
  · intro L az wz hI hL
    obtain ⟨v6, v85, v86, v87, v88, v89, v90, v91, v92, v93, rfl, hK, hA, hB, hC, h6, hz, k0, k1, k2, k4, k5, k6, k8⟩ := hI
    have e6 := hz (hL 9 (by decide))
    subst e6
    have hD := (hC (hL 7 (by decide))).2.2
    replace hD := Lib.hid hD
    have hKK := Lib.hid hK
    clear h6 hz hA hB hC hL hK
    go_wp2_with fail
    go_ret
    exact ⟨rfl, hD.out.less fun j hj => .inl hj, hun.out _ hKK.out⟩
end
end Go.Proofs.YtflbggehgjllcaaDoor
namespace Go.Proofs.YtflbggehgjllcaaDoor
open Go.RowKit
set_option linter.unusedVariables false
section
variable {G : Nat → Prop} {gb rb : Nat} {b : Bk} {w : World}
set_option maxHeartbeats 8000000 in
set_option maxRecDepth 100000 in
theorem do_4 (h : BB G gb b rb b w) (x : XOp) (hx : x.In) (e4 : x.Do ≠ 0 ∧ x.Do ≠ 1 ∧ x.Do ≠ 2 ∧ x.Do ≠ 3) (hat : atL b.l x.id = none) : Calls Tryd.prog 10 #[.pointer (some ⟨gb, 0, none⟩), .pointer (some ⟨rb, 0, none⟩), .agg x.arr] w fun e w' => e = .returned (.bool true) ∧ BB G gb (b.op x) rb (b.op x) w' ∧ Kp (fun j => ¬ G j) w w' := by
  have hop : b.op x = b := by unfold Bk.op; rw [if_neg e4.1, if_neg e4.2.1, if_neg e4.2.2.1, if_neg e4.2.2.2]
  rw [hop]
  clear hop
  have h1 := h.box x
  have hbx := fun W hK => op_box (G := G) (w := w) x (W := W) hK
  have hun := fun W hK => kp_unbox (G := G) (w := w) (x := x) (W := W) hK
  obtain ⟨k0, k1, k2, k3, k4, k5, k6, k7, k8, k9⟩ := hbx _ (Kp.refl _ _)
  have q0 : (x.Do == 0) = false := by simp; omega
  have q1 : (x.Do == 1) = false := by simp; omega
  have q2 : (x.Do == 2) = false := by simp; omega
  have q3 : (x.Do == 3) = false := by simp; omega
  have c1 := fun W (hW : BB (fun j => G j ∨ j = w.heap.size) gb b rb b W) => deal_any (hW.pbk.choose_spec) hx.id (by have := h.okb.len; omega)
  have c2 := fun W (hW : BB (fun j => G j ∨ j = w.heap.size) gb b rb b W) => at_any (hW.rbk.choose_spec) x.id (by have := h.okb.len; omega)
  have c3 := fun W (hW : BB (fun j => G j ∨ j = w.heap.size) gb b rb b W) => state_any (hW.pbk.choose_spec) hx.id (by have := h.okb.len; omega)
  rw [hat] at c2
  have hdl : b.deal x.id = (zeroD, false) := by unfold Bk.deal; rw [hat]
  have hst : b.state x.id = 0 := by unfold Bk.state; rw [hat]
  rw [hdl] at c1
  rw [hst] at c3
  clear hdl hst
  dsimp only [atI] at c1 c2 c3
  have heq : ∀ W : World, (binOp .eql 33 zeroD.val zeroD.val).run Tryd.prog W = .ok (.bool true) W := fun W => by rw [eq_deal, Dl.same_iff.2 rfl]
  unfold Dl.val at heq
  unfold zeroD at c1 heq
  dsimp only at heq
  unfold Dl.val at c1
  dsimp only at c1
  unfold XOp.arr at *
  replace h1 := Lib.hid h1
  replace hbx := Lib.hid hbx
  replace hun := Lib.hid hun
  replace hx := Lib.hid hx
  replace h := Lib.hid h
  replace c1 := Lib.hid c1
  replace c2 := Lib.hid c2
  replace c3 := Lib.hid c3
  replace e4 := Lib.hid e4
  go_enter Tryd.func10, Tryd.ntmps10
  go_wp2_with (first | (go_at_call 22; (with_reducible refine (c1.out _ h1.out).mono ?_); rintro e W2 ⟨rfl, hb2⟩; have hB2 := Lib.hid (h1.out.below hb2); have hK2 := Lib.hid (Kp.of_below (F := fun j => ¬ (G j ∨ j = w.heap.size)) hb2); obtain ⟨j0, j1, j2, j3, j4, j5, j6, j7, j8, j9⟩ := hbx.out _ hK2.out; have hwl : w.heap.size < W2.heap.size := Nat.lt_of_lt_of_le (by simp) hb2.size; replace hb2 := Lib.hid hb2) | (go_at_call 28; have hD := Lib.hid (hB2.out.below ((Below.refl W2.heap.size W2).alloc (Nat.le_refl _) (.cells #[.int .i64 0, .int .i64 0, .int .i64 0, .int .i64 0, .int .i64 0, .int .i64 0, .int .i64 0] 33))); have hKK := Lib.hid (hK2.out.alloc (.cells #[.int .i64 0, .int .i64 0, .int .i64 0, .int .i64 0, .int .i64 0, .int .i64 0, .int .i64 0] 33)); (with_reducible refine (c2.out _ hD.out).mono ?_); rintro e W3 ⟨rfl, rfl⟩) | (go_at_call 19; (with_reducible refine (c3.out _ hD.out).mono ?_); rintro e W4 ⟨rfl, rfl⟩))
  go_ret
  exact ⟨rfl, hD.out.less fun j hj => .inl hj, hun.out _ hKK.out⟩
set_option maxHeartbeats 8000000 in
set_option maxRecDepth 100000 in
theorem do_5 (h : BB G gb b rb b w) (x : XOp) (i : Nat) (hx : x.In) (e4 : x.Do ≠ 0 ∧ x.Do ≠ 1 ∧ x.Do ≠ 2 ∧ x.Do ≠ 3) (hat : atL b.l x.id = some i) : Calls Tryd.prog 10 #[.pointer (some ⟨gb, 0, none⟩), .pointer (some ⟨rb, 0, none⟩), .agg x.arr] w fun e w' => e = .returned (.bool true) ∧ BB G gb (b.op x) rb (b.op x) w' ∧ Kp (fun j => ¬ G j) w w' := by
  have hop : b.op x = b := by unfold Bk.op; rw [if_neg e4.1, if_neg e4.2.1, if_neg e4.2.2.1, if_neg e4.2.2.2]
  rw [hop]
  clear hop
  have h1 := h.box x
  have hbx := fun W hK => op_box (G := G) (w := w) x (W := W) hK
  have hun := fun W hK => kp_unbox (G := G) (w := w) (x := x) (W := W) hK
  obtain ⟨k0, k1, k2, k3, k4, k5, k6, k7, k8, k9⟩ := hbx _ (Kp.refl _ _)
  have q0 : (x.Do == 0) = false := by simp; omega
  have q1 : (x.Do == 1) = false := by simp; omega
  have q2 : (x.Do == 2) = false := by simp; omega
  have q3 : (x.Do == 3) = false := by simp; omega
  have c1 := fun W (hW : BB (fun j => G j ∨ j = w.heap.size) gb b rb b W) => deal_any (hW.pbk.choose_spec) hx.id (by have := h.okb.len; omega)
  have c2 := fun W (hW : BB (fun j => G j ∨ j = w.heap.size) gb b rb b W) => at_any (hW.rbk.choose_spec) x.id (by have := h.okb.len; omega)
  have c3 := fun W (hW : BB (fun j => G j ∨ j = w.heap.size) gb b rb b W) => state_any (hW.pbk.choose_spec) hx.id (by have := h.okb.len; omega)
  rw [hat] at c2
  have hdl : b.deal x.id = ((b.l.getD i default).d, true) := by unfold Bk.deal; rw [hat]
  have hst : b.state x.id = (b.l.getD i default).st := by unfold Bk.state; rw [hat]
  rw [hdl] at c1
  rw [hst] at c3
  clear hdl hst
  dsimp only [atI] at c1 c2 c3
  obtain ⟨hlt, -⟩ := atL_some hat
  rw [getD_at hlt] at c1 c3
  have he : ∀ W, BB (fun j => G j ∨ j = w.heap.size) gb b rb b W → ∃ g cap, W.cell? ⟨rb, 2, none⟩ = some (.slice (some ⟨g, 0, none⟩) b.l.length cap) ∧ W.cell? ⟨g, i * 11, none⟩ = some (.int .i64 (b.l[i]).d.id) ∧ W.cell? ⟨g, i * 11 + 1, none⟩ = some (.int .i64 (b.l[i]).d.a) ∧ W.cell? ⟨g, i * 11 + 2, none⟩ = some (.int .i64 (b.l[i]).d.b) ∧ W.cell? ⟨g, i * 11 + 3, none⟩ = some (.int .i64 (b.l[i]).d.sc) ∧ W.cell? ⟨g, i * 11 + 4, none⟩ = some (.int .i64 (b.l[i]).d.bc) ∧ W.cell? ⟨g, i * 11 + 5, none⟩ = some (.int .i64 (b.l[i]).d.s) ∧ W.cell? ⟨g, i * 11 + 6, none⟩ = some (.int .i64 (b.l[i]).d.t) ∧ W.cell? ⟨g, i * 11 + 7, none⟩ = some (.int .i64 (b.l[i]).st) := fun W hW => by
    obtain ⟨P, v, hR⟩ := hW.rbk
    obtain ⟨g, cap, cur, rfl, -⟩ := orow_some hR.row (by omega)
    obtain ⟨e0, e1, e2, e3, e4, e5, e6, e7, -⟩ := hR.entry hlt rfl
    exact ⟨g, cap, obj_cell hR.obj rfl, e0, e1, e2, e3, e4, e5, e6, e7⟩
  have hiz : (0 : Int) ≤ (i : Int) := by omega
  have hin : (i : Int) < (b.l.length : Int) := by omega
  generalize b.l[i] = y at *
  have heq : ∀ W : World, (binOp .eql 33 y.d.val y.d.val).run Tryd.prog W = .ok (.bool true) W := fun W => by rw [eq_deal, Dl.same_iff.2 rfl]
  unfold Dl.val at heq
  generalize b.l.length = n at *
  unfold Dl.val at c1
  unfold XOp.arr at *
  replace h1 := Lib.hid h1
  replace hbx := Lib.hid hbx
  replace hun := Lib.hid hun
  replace hx := Lib.hid hx
  replace h := Lib.hid h
  replace c1 := Lib.hid c1
  replace c2 := Lib.hid c2
  replace c3 := Lib.hid c3
  replace e4 := Lib.hid e4
  replace he := Lib.hid he
  go_enter Tryd.func10, Tryd.ntmps10
  go_upto_region 18 with (first | (go_at_call 22; (with_reducible refine (c1.out _ h1.out).mono ?_); rintro e W2 ⟨rfl, hb2⟩; have hB2 := Lib.hid (h1.out.below hb2); have hK2 := Lib.hid (Kp.of_below (F := fun j => ¬ (G j ∨ j = w.heap.size)) hb2); obtain ⟨j0, j1, j2, j3, j4, j5, j6, j7, j8, j9⟩ := hbx.out _ hK2.out; have hwl : w.heap.size < W2.heap.size := Nat.lt_of_lt_of_le (by simp) hb2.size; replace hb2 := Lib.hid hb2) | (go_at_call 28; have hD := Lib.hid (hB2.out.below ((Below.refl W2.heap.size W2).alloc (Nat.le_refl _) (.cells #[.int .i64 y.d.id, .int .i64 y.d.a, .int .i64 y.d.b, .int .i64 y.d.sc, .int .i64 y.d.bc, .int .i64 y.d.s, .int .i64 y.d.t] 33))); have hKK := Lib.hid (hK2.out.alloc (.cells #[.int .i64 y.d.id, .int .i64 y.d.a, .int .i64 y.d.b, .int .i64 y.d.sc, .int .i64 y.d.bc, .int .i64 y.d.s, .int .i64 y.d.t] 33)); obtain ⟨g, cap, m2, m3, m4, m5, m6, m7, m8, m9, m10⟩ := he.out _ hD.out; (with_reducible refine (c2.out _ hD.out).mono ?_); rintro e W3 ⟨rfl, rfl⟩))
  have hDd := Lib.hid (fun nq => BB.below (w' := World.drewN (W2.alloc (.cells #[.int .i64 y.d.id, .int .i64 y.d.a, .int .i64 y.d.b, .int .i64 y.d.sc, .int .i64 y.d.bc, .int .i64 y.d.s, .int .i64 y.d.t] 33)) nq) hD.out ⟨rfl, rfl, rfl, Nat.le_refl _, fun _ _ => rfl⟩)
  go_quiet ((go_at_call 19; exact Calls.quiet_of_same ((c3.out _ (hDd.out _)).mono fun e w4 hh => ⟨hh.1, hh.2.symm⟩)))
  go_wp2_with fail
  go_ret
  exact ⟨rfl, (hDd.out _).less fun j hj => .inl hj, (hun.out _ hKK.out).drewN _⟩
end
end Go.Proofs.YtflbggehgjllcaaDoor
namespace Go.Proofs.YtflbggehgjllcaaDoor
open Go.RowKit
set_option linter.unusedVariables false
section
variable {G G' : Nat → Prop} {gb rb : Nat} {b : Bk} {w : World}
theorem do_any (h : BB G gb b rb b w) (x : XOp) (hx : x.In) : Calls Tryd.prog 10 #[.pointer (some ⟨gb, 0, none⟩), .pointer (some ⟨rb, 0, none⟩), .agg x.arr] w fun e w' => e = .returned (.bool true) ∧ BB G gb (b.op x) rb (b.op x) w' ∧ Kp (fun j => ¬ G j) w w' := by
  by_cases e0 : x.Do = 0
  · exact do_0 h x hx e0
  by_cases e1 : x.Do = 1
  · exact do_1 h x hx e1
  by_cases e2 : x.Do = 2
  · exact do_2 h x hx e2
  by_cases e3 : x.Do = 3
  · exact do_3 h x hx e3
  rcases ha : atL b.l x.id with _ | i
  · exact do_4 h x hx ⟨e0, e1, e2, e3⟩ ha
  · exact do_5 h x i hx ⟨e0, e1, e2, e3⟩ ha
theorem BB.ptext (h : BB G gb b rb b w) (hZ : SZ w) : Calls Tryd.prog 11 #[.pointer (some ⟨gb, 0, none⟩)] w fun e w' => e = .returned (.string ⟨b.text.toArray⟩) ∧ Below w.heap.size w w' :=
  text_any h.pbk.choose_spec (by have := h.okb.len; omega) hZ
theorem BB.rtext (h : BB G gb b rb b w) : Calls Tryd.prog 12 #[.pointer (some ⟨rb, 0, none⟩)] w fun e w' => e = .returned (.string ⟨b.text.toArray⟩) ∧ Below w.heap.size w w' :=
  rtext_any h.rbk.choose_spec (by have := h.okb.len; omega) fun e he => ⟨(h.okb.may e he).2.2.2.1, En.may_ask (h.okb.may e he).2.2.1⟩
theorem BB.pall (h : BB G gb b rb b w) (st : Int) : Calls Tryd.prog 14 #[.pointer (some ⟨gb, 0, none⟩), .int .i64 st] w fun e w' => ∃ u, e = .returned u ∧ ZR w w' u (b.all st) :=
  all_any h.pbk.choose_spec st (by have := h.okb.len; omega) fun e => by subst e; exact h.okb.nodup2
theorem BB.rall (h : BB G gb b rb b w) (st : Int) : Calls Tryd.prog 15 #[.pointer (some ⟨rb, 0, none⟩), .int .i64 st] w fun e w' => ∃ u, e = .returned u ∧ ZR w w' u (b.all st) :=
  rall_any h.rbk.choose_spec h.okc st
theorem all_short {b : Bk} (h : b.Ok) (st : Int) : (b.all st).length ≤ 1000000 := by
  have := h.len
  unfold Bk.all
  dsimp only
  rw [List.length_map]
  split
  · unfold lowest
    rw [List.length_mergeSort]
    exact Nat.le_trans (List.length_filter_le _ _) (by omega)
  · exact Nat.le_trans (List.length_filter_le _ _) (by omega)
theorem same_all (u v : Value) (zs : List Int) (W : World) (hu : IRow W u zs) (hv : IRow W v zs) (hl : zs.length ≤ 1000000) : Calls Tryd.prog 13 #[u, v] W fun e w' => e = .returned (.bool true) ∧ Below W.heap.size W w' :=
  (same_any u v _ _ W hu hv hl hl).mono fun e w' ⟨q1, n, q2⟩ => ⟨by rw [q1]; simp, by rw [q2]; exact ⟨rfl, rfl, rfl, Nat.le_refl _, fun _ _ => rfl⟩⟩
/-- both, made -/
theorem BB.made {N : Nat} {w2 w3 : World} (hP : PB (fun j => ¬ j < N) w2 gb b) (hR : RB (fun j => ¬ j < w2.heap.size) w3 rb b) (hb : Below w2.heap.size w2 w3) (hN : N ≤ w2.heap.size) (ho : b.Ok) : BB (fun j => j < N) gb b rb b w3 := by
  have hs := hb.size
  refine ⟨⟨fun j => N ≤ j ∧ j < w2.heap.size, fun j => w2.heap.size ≤ j ∧ j < w3.heap.size, below_pb ((PB.live gb b).weak hP fun j hj hn => ⟨by omega, hj⟩) hb, (RB.live rb b).weak hR fun j hj hn => ⟨by omega, hj⟩, fun j hj => ⟨fun h => ?_, fun h => ?_, ?_⟩, fun j hj => ⟨fun h => ?_, hj.2⟩⟩, fun j hj => ?_, ho, ho⟩ <;> omega
end
set_option maxHeartbeats 8000000 in
set_option maxRecDepth 100000 in
theorem does_any (mem cur : Int) (p : Option Addr) (len cap : Nat) (ops : List XOp) (w : World) (hO : OpsX w p len ops) (hZ : SZ w) : Calls Tryd.prog 3 #[.int .i64 mem, .int .i64 cur, .slice p len cap] w fun e w' => e = .returned (.bool true) ∧ Below w.heap.size w w' := by
  have cw := awake_any w hZ
  rcases hnew : newR mem cur with _ | _
  · have cN := fun W => new_no mem cur W hnew
    have cR := fun W => rnew_no mem cur W hnew
    replace hO := Lib.hid hO
    replace hZ := Lib.hid hZ
    replace cw := Lib.hid cw
    replace cN := Lib.hid cN
    replace cR := Lib.hid cR
    replace hnew := Lib.hid hnew
    go_enter Tryd.func3, Tryd.ntmps3
    go_wp2_with (first | (go_at_call 7; (with_reducible refine cw.out.mono ?_); rintro e w1 ⟨rfl, hb1⟩; replace hb1 := Lib.hid hb1) | (go_at_call 8; (with_reducible refine (cN.out _).mono ?_); rintro e w2 ⟨rfl, rfl⟩) | (go_at_call 9; (with_reducible refine (cR.out _).mono ?_); rintro e w2 ⟨rfl, rfl⟩))
    go_loopw [11] (fun i wr => i = .int .i64 0 ∧ wr = w1) (fun i _ => 0)
    case atStart => exact ⟨rfl, rfl⟩
    case round =>
      obtain ⟨rfl, rfl⟩ := hrel
      go_wp2_with fail
      go_ret
      exact ⟨rfl, hb1.out⟩
  · have cN := fun W => new_yes (fun j => ¬ j < W.heap.size) mem cur W hnew (fun i hi => by omega)
    have cR := fun W => rnew_yes (fun j => ¬ j < W.heap.size) mem cur W hnew (fun i hi => by omega)
    have hok : (⟨mem, cur, [], 0⟩ : Bk).Ok := by
      unfold newR at hnew
      have h' := of_decide_eq_true hnew
      exact new_ok ⟨h'.1, h'.2.1⟩ ⟨h'.2.2.1, h'.2.2.2⟩
    replace hok := Lib.hid hok
    replace hO := Lib.hid hO
    replace hZ := Lib.hid hZ
    replace cw := Lib.hid cw
    replace cN := Lib.hid cN
    replace cR := Lib.hid cR
    replace hnew := Lib.hid hnew
    go_enter Tryd.func3, Tryd.ntmps3
    go_wp2_with (first | (go_at_call 7; (with_reducible refine cw.out.mono ?_); rintro e w1 ⟨rfl, hb1⟩; replace hb1 := Lib.hid hb1) | (go_at_call 8; (with_reducible refine (cN.out _).mono ?_); rintro e w2 ⟨gb, rfl, hB2, hb2, hgb⟩; replace hB2 := Lib.hid hB2; replace hb2 := Lib.hid hb2; replace hgb := Lib.hid hgb) | (go_at_call 9; (with_reducible refine (cR.out _).mono ?_); rintro e w3 ⟨rb, rfl, hR3, hb3, hrb⟩; replace hR3 := Lib.hid hR3; replace hb3 := Lib.hid hb3; replace hrb := Lib.hid hrb))
    have hS0 := Lib.hid (BB.made hB2.out hR3.out hb3.out hb2.out.size hok.out)
    have hBl0 := Lib.hid (hb2.out.trans (hb3.out.mono hb2.out.size))
    go_loopw [11] (fun i wr => ∃ (k : Nat) (b : Bk), k ≤ len ∧ k ≤ 60 ∧ i = .int .i64 (k : Int) ∧ Hid (BB (fun j => j < w1.heap.size) gb b rb b wr) ∧ Hid (Below w1.heap.size w1 wr)) (fun i _ => 60 - (intOf i).toNat)
    case atStart => exact ⟨0, _, by omega, by omega, rfl, hS0, hBl0⟩
    case round =>
      obtain ⟨k, b, hk, hk6, rfl, hS, hBl⟩ := hrel
      have hBw := hb1.out.trans (hBl.out.mono hb1.out.size)
      by_cases hkl : k < len
      · have hkz : (k : Int) < (len : Int) := by omega
        by_cases hk60 : k < 60
        · have hk6z : (k : Int) < 60 := by omega
          obtain ⟨x, hx⟩ : ∃ x, ops[k]? = some x := ⟨_, List.getElem?_eq_getElem (by rw [hO.out.1]; exact hkl)⟩
          have hxin : x.In := hO.out.2.2.1 x (List.mem_of_getElem? hx)
          obtain ⟨ob, off, rfl, q0, q1, q2, q3, q4, q5, q6, q7, q8, q9⟩ := (hO.out.kept hBw).at hx
          have hkz0 : (0 : Int) ≤ (k : Int) := by omega
          have cD := do_any hS.out x hxin
          have hZr := hZ.out.below hBw
          have hstep : ∀ W, Kp (fun j => ¬ j < w1.heap.size) wr W → Below w1.heap.size w1 W := fun W hK => hBl.out.trans (hK.below hBl.out.size fun j hj hn => hn hj)
          have cTp := fun W (h : BB (fun j => j < w1.heap.size) gb (b.op x) rb (b.op x) W) (hz : SZ W) => h.ptext hz
          have cTr := fun W (h : BB (fun j => j < w1.heap.size) gb (b.op x) rb (b.op x) W) => h.rtext
          have hZZ : ∀ W, Below w1.heap.size w1 W → SZ W := fun W hW => hZ.out.below (hb1.out.trans (hW.mono hb1.out.size))
          unfold XOp.arr at cD
          generalize b.op x = b1 at *
          obtain ⟨T, hT⟩ : ∃ T : ByteArray, T = ⟨b1.text.toArray⟩ := ⟨_, rfl⟩
          rw [← hT] at cTp cTr
          replace hT := Lib.hid hT
          replace cD := Lib.hid cD
          replace cTp := Lib.hid cTp
          replace cTr := Lib.hid cTr
          replace hZZ := Lib.hid hZZ
          replace hZr := Lib.hid hZr
          replace hstep := Lib.hid hstep
          replace hxin := Lib.hid hxin
          replace hBw := Lib.hid hBw
          replace hx := Lib.hid hx
          go_wp2_with (first | (go_at_call 10; (with_reducible refine cD.out.mono ?_); rintro e W2 ⟨rfl, hS2, hK2⟩; have hBl2 := Lib.hid (hstep.out _ hK2); replace hS2 := Lib.hid hS2; clear hK2) | (go_at_call 11; (with_reducible refine (cTp.out _ hS2.out (hZZ.out _ hBl2.out)).mono ?_); rintro e W3 ⟨rfl, hb4⟩; have hS3 := Lib.hid (hS2.out.below hb4); have hBl3 := Lib.hid (hBl2.out.trans (hb4.mono hBl2.out.size)); clear hb4) | (go_at_call 12; (with_reducible refine (cTr.out _ hS3.out).mono ?_); rintro e W4 ⟨rfl, hb5⟩; have hS4 := Lib.hid (hS3.out.below hb5); have hBl4 := Lib.hid (hBl3.out.trans (hb5.mono hBl3.out.size)); clear hb5))
          go_loopw [12] (fun s wz => ∃ z : Nat, z ≤ 7 ∧ s = .int .i64 ((z : Int) - 1) ∧ Hid (BB (fun j => j < w1.heap.size) gb b1 rb b1 wz) ∧ Hid (Below w1.heap.size w1 wz)) (fun s _ => (6 - intOf s).toNat)
          case atStart => exact ⟨0, by omega, rfl, hS4, hBl4⟩
          case round =>
            obtain ⟨z, hz, rfl, hS5, hBl5⟩ := hrel
            have hz0 : ((z : Int) - 1) + 1 = (z : Int) := by omega
            by_cases hz7 : z < 7
            · have hzz : (z : Int) - 1 ≤ 5 := by omega
              have hzl : (-1 : Int) ≤ (z : Int) - 1 := by omega
              have cA := hS5.out.pall ((z : Int) - 1)
              have cB := fun W (h : BB (fun j => j < w1.heap.size) gb b1 rb b1 W) => h.rall ((z : Int) - 1)
              have cS := fun W u v hu hv => same_all u v (b1.all ((z : Int) - 1)) W hu hv (all_short hS5.out.okb _)
              generalize b1.all ((z : Int) - 1) = zs at *
              generalize hq : (z : Int) - 1 = q at *
              have hq1 : (z : Int) = q + 1 := by omega
              replace hq := Lib.hid hq
              replace hq1 := Lib.hid hq1
              replace cA := Lib.hid cA
              replace cB := Lib.hid cB
              replace cS := Lib.hid cS
              clear hz0
              go_wp2_with (first | (go_at_call 14; (with_reducible refine cA.out.mono ?_); rintro e W6 ⟨u, rfl, hu⟩; have hS6 := Lib.hid (hS5.out.below hu.bl); have hBl6 := Lib.hid (hBl5.out.trans (hu.bl.mono hBl5.out.size)); replace hu := Lib.hid hu.row) | (go_at_call 15; (with_reducible refine (cB.out _ hS6.out).mono ?_); rintro e W7 ⟨v, rfl, hv⟩; have hS7 := Lib.hid (hS6.out.below hv.bl); have hBl7 := Lib.hid (hBl6.out.trans (hv.bl.mono hBl6.out.size)); have hu7 : Hid (IRow W7 u zs) := Lib.hid (orow_kp hu.out (Kp.of_below (F := fun _ => False) hv.bl) (fun _ _ h => h)); replace hv := Lib.hid hv.row) | (go_at_call 13; (with_reducible refine (cS.out _ _ _ hu7.out hv.out).mono ?_); rintro e W8 ⟨rfl, hb8⟩; have hS8 := Lib.hid (hS7.out.below hb8); have hBl8 := Lib.hid (hBl7.out.trans (hb8.mono hBl7.out.size)); clear hb8))
              go_roundw
              case rel => exact ⟨z + 1, by omega, by have := hq1.out; go_num, hS8, hBl8⟩
              case measure => simp [intOf]; omega
            · have hzz : ¬ (z : Int) - 1 ≤ 5 := by omega
              go_wp2_with fail
              go_roundw
              case rel => exact ⟨k + 1, b1, by omega, by omega, by go_num, hS5, hBl5⟩
              case measure => simp [intOf]; omega
        · have hk6z : ¬ (k : Int) < 60 := by omega
          go_wp2_with fail
          go_ret
          exact ⟨rfl, hBw⟩
      · have hkz : ¬ (k : Int) < (len : Int) := by omega
        go_wp2_with fail
        go_ret
        exact ⟨rfl, hBw⟩
end Go.Proofs.YtflbggehgjllcaaDoor
