/- Both books beside each other and beside what stays: what the calls of the one and of the other do. -/
import Derived.Test.YtflbggehgjllcaaDoorRO
import Derived.Test.YtflbggehgjllcaaDoorRI
import Derived.Test.YtflbggehgjllcaaDoorRF
import Derived.Test.YtflbggehgjllcaaDoorRH
import Derived.Test.YtflbggehgjllcaaDoorDZ
import Derived.Test.YtflbggehgjllcaaDoorPX
namespace Go.Proofs.YtflbggehgjllcaaDoor
open Go.RowKit
set_option linter.unusedVariables false

/-- the program's book and the reference's, beside G's blocks, which stay -/
structure BB (G : Nat → Prop) (gb : Nat) (b : Bk) (rb : Nat) (c : Bk) (w : World) : Prop where
  ap : Apart G (fun P w => PB P w gb b) (fun P w => RB P w rb c) w
  lt : ∀ j, G j → j < w.heap.size
  okb : b.Ok
  okc : c.Ok
/-- a book with a row that it handed out -/
def PU (gb : Nat) (b : Bk) (u : Value) (zs : List Int) (P : Nat → Prop) (w : World) : Prop := PB P w gb b ∧ IRow w u zs ∧ ∀ g, u.ownBlock = some g → P g
def RU (rb : Nat) (b : Bk) (u : Value) (zs : List Int) (P : Nat → Prop) (w : World) : Prop := RB P w rb b ∧ IRow w u zs ∧ ∀ g, u.ownBlock = some g → P g
theorem PU.live (gb : Nat) (b : Bk) (u : Value) (zs : List Int) : Live (PU gb b u zs) :=
  ⟨fun ⟨h1, h2, h3⟩ hK hF => ⟨(PB.live gb b).kept h1 hK hF, orow_kp h2 hK fun g hg => hF g (World.ownsRow.lt h2 g hg).2 (h3 g hg), h3⟩, fun ⟨h1, h2, h3⟩ hq => ⟨(PB.live gb b).weak h1 hq, h2, fun g hg => hq g (World.ownsRow.lt h2 g hg).2 (h3 g hg)⟩⟩
theorem RU.live (gb : Nat) (b : Bk) (u : Value) (zs : List Int) : Live (RU gb b u zs) :=
  ⟨fun ⟨h1, h2, h3⟩ hK hF => ⟨(RB.live gb b).kept h1 hK hF, orow_kp h2 hK fun g hg => hF g (World.ownsRow.lt h2 g hg).2 (h3 g hg), h3⟩, fun ⟨h1, h2, h3⟩ hq => ⟨(RB.live gb b).weak h1 hq, h2, fun g hg => hq g (World.ownsRow.lt h2 g hg).2 (h3 g hg)⟩⟩
/-- both, and the row that the program's handed out -/
structure BU (G : Nat → Prop) (gb : Nat) (b : Bk) (u : Value) (zs : List Int) (rb : Nat) (c : Bk) (w : World) : Prop where
  ap : Apart G (PU gb b u zs) (fun P w => RB P w rb c) w
  lt : ∀ j, G j → j < w.heap.size
  okb : b.Ok
  okc : c.Ok
section
variable {G G' : Nat → Prop} {gb rb : Nat} {b b' c c' : Bk} {w w' : World} {u : Value} {zs : List Int}
theorem BB.below (h : BB G gb b rb c w) (hb : Below w.heap.size w w') : BB G gb b rb c w' := ⟨h.ap.below (PB.live gb b) (RB.live rb c) hb, fun j hj => Nat.lt_of_lt_of_le (h.lt j hj) hb.size, h.okb, h.okc⟩
theorem BB.more (h : BB G gb b rb c w) (hb : Below w.heap.size w w') (hG : ∀ j, j < w.heap.size → G' j → G j) (hl : ∀ j, G' j → j < w'.heap.size) : BB G' gb b rb c w' :=
  ⟨h.ap.more (PB.live gb b) (RB.live rb c) hb hG, hl, h.okb, h.okc⟩
theorem BB.less (h : BB G' gb b rb c w) (hG : ∀ j, G j → G' j) : BB G gb b rb c w := ⟨h.ap.less hG, fun j hj => h.lt j (hG j hj), h.okb, h.okc⟩
theorem BU.below (h : BU G gb b u zs rb c w) (hb : Below w.heap.size w w') : BU G gb b u zs rb c w' := ⟨h.ap.below (PU.live gb b u zs) (RB.live rb c) hb, fun j hj => Nat.lt_of_lt_of_le (h.lt j hj) hb.size, h.okb, h.okc⟩
theorem BB.pbk (h : BB G gb b rb c w) : ∃ P, PB P w gb b := by obtain ⟨PF, RF, h1, _⟩ := h.ap; exact ⟨PF, h1⟩
theorem BB.rbk (h : BB G gb b rb c w) : ∃ P, RB P w rb c := by obtain ⟨PF, RF, _, h1, _⟩ := h.ap; exact ⟨RF, h1⟩
theorem BB.pcall {f : FuncId} {args : Array Value} {φ : Ending → Prop} (h : BB G gb b rb c w) (ho : b'.Ok) (hc : ∀ P : Nat → Prop, PB P w gb b → (∀ i, w.heap.size ≤ i → P i) → Calls Tryd.prog f args w fun e w' => φ e ∧ PB P w' gb b' ∧ Kp P w w') :
    Calls Tryd.prog f args w fun e w' => φ e ∧ BB G gb b' rb c w' ∧ Kp (fun j => ¬ G j) w w' :=
  (Apart.call (α := Unit) (X' := fun _ P w => PB P w gb b') (φ := fun _ => φ) (PB.live gb b) (fun _ => PB.live gb b') (RB.live rb c) h.lt h.ap (fun P h1 h2 => (hc P h1 h2).mono fun e w' h => ⟨(), h⟩)).mono fun e w' ⟨_, h1, h2, h3⟩ => ⟨h1, ⟨h2, fun j hj => Nat.lt_of_lt_of_le (h.lt j hj) h3.size, ho, h.okc⟩, h3⟩
theorem BB.rcall {f : FuncId} {args : Array Value} {φ : Ending → Prop} (h : BB G gb b rb c w) (ho : c'.Ok) (hc : ∀ P : Nat → Prop, RB P w rb c → (∀ i, w.heap.size ≤ i → P i) → Calls Tryd.prog f args w fun e w' => φ e ∧ RB P w' rb c' ∧ Kp P w w') :
    Calls Tryd.prog f args w fun e w' => φ e ∧ BB G gb b rb c' w' ∧ Kp (fun j => ¬ G j) w w' :=
  (Apart.call (α := Unit) (X' := fun _ P w => RB P w rb c') (φ := fun _ => φ) (RB.live rb c) (fun _ => RB.live rb c') (PB.live gb b) h.lt h.ap.swap (fun P h1 h2 => (hc P h1 h2).mono fun e w' h => ⟨(), h⟩)).mono fun e w' ⟨_, h1, h2, h3⟩ => ⟨h1, ⟨h2.swap, fun j hj => Nat.lt_of_lt_of_le (h.lt j hj) h3.size, h.okb, ho⟩, h3⟩
theorem BB.psub (h : BB G gb b rb c w) (d : Dl) (hd : d.In) : Calls Tryd.prog 18 #[.pointer (some ⟨gb, 0, none⟩), d.val] w fun e w' => e = .returned (.tuple #[.bool (b.sub d).1.1, .int .i64 (b.sub d).1.2]) ∧ BB G gb (b.sub d).2 rb c w' ∧ Kp (fun j => ¬ G j) w w' :=
  h.pcall (sub_ok h.okb d hd) fun P hP hf => submit_any hP d hd.id h.okb.len (by have := h.okb.many.2; omega) hf
theorem BB.rsub (h : BB G gb b rb c w) (d : Dl) (hd : d.In) : Calls Tryd.prog 24 #[.pointer (some ⟨rb, 0, none⟩), d.val] w fun e w' => e = .returned (.tuple #[.bool (c.sub d).1.1, .int .i64 (c.sub d).1.2]) ∧ BB G gb b rb (c.sub d).2 w' ∧ Kp (fun j => ¬ G j) w w' :=
  h.rcall (sub_ok h.okc d hd) fun P hP hf => rsub_any hP d h.okc.len (by have := h.okc.many.2; omega) hf
theorem BB.pres (h : BB G gb b rb c w) (m id : Int) (hid : In64 id) : Calls Tryd.prog 20 #[.pointer (some ⟨gb, 0, none⟩), .int .i64 m, .int .i64 id] w fun e w' => e = .returned (.tuple #[.int .i64 (b.res m id).1.1, .int .i64 (b.res m id).1.2]) ∧ BB G gb (b.res m id).2 rb c w' ∧ Kp (fun j => ¬ G j) w w' :=
  h.pcall (res_ok h.okb m id) fun P hP hf => rescind_any hP m hid (by have := h.okb.len; omega) fun e he => ⟨(h.okb.may e he).2.2.2.1, En.may_ask (h.okb.may e he).2.2.1⟩
theorem BB.rres (h : BB G gb b rb c w) (m id : Int) : Calls Tryd.prog 25 #[.pointer (some ⟨rb, 0, none⟩), .int .i64 m, .int .i64 id] w fun e w' => e = .returned (.tuple #[.int .i64 (c.res m id).1.1, .int .i64 (c.res m id).1.2]) ∧ BB G gb b rb (c.res m id).2 w' ∧ Kp (fun j => ¬ G j) w w' :=
  h.rcall (res_ok h.okc m id) fun P hP hf => rrescind_any hP m id h.okc hf
theorem BB.pset (h : BB G gb b rb c w) (id : Int) (hid : In64 id) : Calls Tryd.prog 21 #[.pointer (some ⟨gb, 0, none⟩), .int .i64 id] w fun e w' => e = .returned (.int .i64 (b.set id).1) ∧ BB G gb (b.set id).2 rb c w' ∧ Kp (fun j => ¬ G j) w w' :=
  h.pcall (set_ok h.okb id) fun P hP hf => settle_any hP hid (by have := h.okb.len; omega)
theorem BB.rset (h : BB G gb b rb c w) (id : Int) : Calls Tryd.prog 26 #[.pointer (some ⟨rb, 0, none⟩), .int .i64 id] w fun e w' => e = .returned (.int .i64 (c.set id).1) ∧ BB G gb b rb (c.set id).2 w' ∧ Kp (fun j => ¬ G j) w w' :=
  h.rcall (set_ok h.okc id) fun P hP hf => rsettle_any hP id (by have := h.okc.len; omega) hf
theorem BB.prem (h : BB G gb b rb c w) (m : Int) : Calls Tryd.prog 23 #[.pointer (some ⟨gb, 0, none⟩), .int .i64 m] w fun e w' => ∃ u, e = .returned u ∧ BU G gb (b.rem m).2 u (b.rem m).1 rb c w' ∧ Kp (fun j => ¬ G j) w w' :=
  (Apart.call (α := Value) (X' := fun u => PU gb (b.rem m).2 u (b.rem m).1) (φ := fun u e => e = .returned u) (PB.live gb b) (fun u => PU.live gb (b.rem m).2 u (b.rem m).1) (RB.live rb c) h.lt h.ap (fun P h1 h2 => (remove_any h1 m (by have := h.okb.len; omega) h2).mono fun e w' ⟨u, k1, k2, k3, k4, k5⟩ => ⟨u, k1, ⟨k4, k2, fun g hg => h2 g (k3 g hg)⟩, k5⟩)).mono fun e w' ⟨u, h1, h2, h3⟩ => ⟨u, h1, ⟨h2, fun j hj => Nat.lt_of_lt_of_le (h.lt j hj) h3.size, rem_ok h.okb m, h.okc⟩, h3⟩
theorem BU.rrem (h : BU G gb b u zs rb c w) (m : Int) : Calls Tryd.prog 27 #[.pointer (some ⟨rb, 0, none⟩), .int .i64 m] w fun e w' => ∃ v, e = .returned v ∧ (IRow w' u zs ∧ IRow w' v (c.rem m).1 ∧ BB G gb b rb (c.rem m).2 w') ∧ Kp (fun j => ¬ G j) w w' :=
  (Apart.call (α := Value) (X' := fun v => RU rb (c.rem m).2 v (c.rem m).1) (φ := fun v e => e = .returned v) (RB.live rb c) (fun v => RU.live rb (c.rem m).2 v (c.rem m).1) (PU.live gb b u zs) h.lt h.ap.swap (fun P h1 h2 => (rrem_any h1 m (by have := h.okc.len; omega) h2).mono fun e w' ⟨u, k1, k2, k3, k4, k5⟩ => ⟨u, k1, ⟨k4, k2, fun g hg => h2 g (k3 g hg)⟩, k5⟩)).mono fun e w' ⟨v, h1, h2, h3⟩ => by
    have hp : IRow w' u zs := by obtain ⟨_, _, _, q, _⟩ := h2; exact q.2.1
    have hr : IRow w' v (c.rem m).1 := by obtain ⟨_, _, q, _⟩ := h2; exact q.2.1
    exact ⟨v, h1, ⟨hp, hr, ⟨((h2.map (X' := fun P w => RB P w rb (c.rem m).2) fun P hP => hP.1).swap.map (X' := fun P w => PB P w gb b) fun P hP => hP.1), fun j hj => Nat.lt_of_lt_of_le (h.lt j hj) h3.size, h.okb, rem_ok h.okc m⟩⟩, h3⟩
/-- an operation in its box -/
theorem BB.box (h : BB G gb b rb c w) (x : XOp) : BB (fun j => G j ∨ j = w.heap.size) gb b rb c (w.alloc (.cells x.arr 35)) :=
  h.more ((Below.refl _ _).alloc (Nat.le_refl _) _) (fun j hj hg => by rcases hg with h | h; exact h; omega) (fun j hg => by rcases hg with h1 | h1; have := h.lt j h1; simp; omega; simp; omega)
theorem op_box (x : XOp) {W : World} (hK : Kp (fun j => ¬ (G j ∨ j = w.heap.size)) (w.alloc (.cells x.arr 35)) W) : W.cell? ⟨w.heap.size, 0, none⟩ = some (.int .i64 x.Do) ∧ W.cell? ⟨w.heap.size, 1, none⟩ = some (.int .i64 x.m) ∧ W.cell? ⟨w.heap.size, 2, none⟩ = some (.int .i64 x.id) ∧ W.cell? ⟨w.heap.size, 3, none⟩ = some (.int .i64 x.d.id) ∧ W.cell? ⟨w.heap.size, 4, none⟩ = some (.int .i64 x.d.a) ∧ W.cell? ⟨w.heap.size, 5, none⟩ = some (.int .i64 x.d.b) ∧ W.cell? ⟨w.heap.size, 6, none⟩ = some (.int .i64 x.d.sc) ∧ W.cell? ⟨w.heap.size, 7, none⟩ = some (.int .i64 x.d.bc) ∧ W.cell? ⟨w.heap.size, 8, none⟩ = some (.int .i64 x.d.s) ∧ W.cell? ⟨w.heap.size, 9, none⟩ = some (.int .i64 x.d.t) := by
  have hn := (hK.block w.heap.size (by simp) (fun h => h (.inr rfl))).trans (heap_alloc_new w (.cells x.arr 35))
  exact ⟨obj_cell hn rfl, obj_cell hn rfl, obj_cell hn rfl, obj_cell hn rfl, obj_cell hn rfl, obj_cell hn rfl, obj_cell hn rfl, obj_cell hn rfl, obj_cell hn rfl, obj_cell hn rfl⟩
theorem kp_unbox {x : XOp} {W : World} (hK : Kp (fun j => ¬ (G j ∨ j = w.heap.size)) (w.alloc (.cells x.arr 35)) W) : Kp (fun j => ¬ G j) w W :=
  (Kp.of_below ((Below.refl w.heap.size w).alloc (Nat.le_refl _) _)).trans (hK.mono fun j _ hj hg => hj (.inl hg))
end
end Go.Proofs.YtflbggehgjllcaaDoor
