/- Instructions and what a book knows of them, as plain data: what each operation answers and leaves. No Go text.
  What stays but for some blocks; things in memory that lie apart; rows of a call's own: kept, read, written, appended to.
  Entries as values; the contracts of two, mayBe, mirror, side, open, mayStand, textSize.
  A book in memory; the contracts of find, State, Deal, Settle.
  The contracts of Deal, ask, Rescind.
  The contracts of Rescind, add, learn, Submit.
  The contracts of add, learn, Submit.
  A region that draws its order: what every order keeps is there at its end. -/
import Derived.Lib.Hide
import Derived.Test.YthocnlalahknjaaGreatProg
import Derived.WalkKit
import Derived.Below
import Derived.Outline
import Derived.OwnWalk
import Derived.IntWalk
import Derived.WalkSpells
import Derived.Deep.QuietTactic
import Derived.BigQuiet
import Derived.Deep.LoopGhost
import Derived.Deep.DeepCutAuto
import Derived.Deep.CutBlock
import Derived.Deep.RegionWith
import Derived.Deep.RegionHeld3
import Derived.Deep.RegionLaw
import Derived.StillTailTactics
import Derived.Laws.OwnMore
import Derived.Laws.AppendOwn
import Derived.Laws.StructEq
import Derived.Maps.OwnSet
import Derived.Maps.OwnOps
namespace Go.Proofs.YthocnlalahknjaaGreat.Dd

def In64 (x : Int) : Prop := -9223372036854775808 ≤ x ∧ x ≤ 9223372036854775807
/-- an instruction -/
structure Dl where
  id : Int
  a : Int
  b : Int
  sc : Int
  bc : Int
  s : Int
  t : Int
deriving DecidableEq, Inhabited
/-- its mirror -/
def Dl.mir (d : Dl) : Dl := ⟨d.id, d.b, d.a, d.bc, d.sc, d.t, d.s⟩
/-- every number is one of 64 bits -/
structure Dl.In (d : Dl) : Prop where
  id : In64 d.id
  a : In64 d.a
  b : In64 d.b
  sc : In64 d.sc
  bc : In64 d.bc
  s : In64 d.s
  t : In64 d.t
theorem Dl.In.mir {d : Dl} (h : d.In) : d.mir.In := ⟨h.id, h.b, h.a, h.bc, h.sc, h.t, h.s⟩
def zeroD : Dl := ⟨0, 0, 0, 0, 0, 0, 0⟩
/-- two of so many -/
def twoB (x y n : Int) : Bool := decide (0 ≤ x) && decide (x < n) && decide (0 ≤ y) && decide (y < n) && decide (x ≠ y)
/-- may it be? -/
def mayB (d : Dl) (mem cur : Int) : Bool := decide (1 ≤ d.id) && decide (d.id ≤ 2147483647) && twoB d.a d.b mem && twoB d.sc d.bc cur && decide (1 ≤ d.s) && decide (1 ≤ d.t)
theorem twoB_iff {x y n : Int} : twoB x y n = true ↔ 0 ≤ x ∧ x < n ∧ 0 ≤ y ∧ y < n ∧ x ≠ y := by unfold twoB; simp; omega
theorem mayB_iff {d : Dl} {mem cur : Int} : mayB d mem cur = true ↔ 1 ≤ d.id ∧ d.id ≤ 2147483647 ∧ (0 ≤ d.a ∧ d.a < mem ∧ 0 ≤ d.b ∧ d.b < mem ∧ d.a ≠ d.b) ∧ (0 ≤ d.sc ∧ d.sc < cur ∧ 0 ≤ d.bc ∧ d.bc < cur ∧ d.sc ≠ d.bc) ∧ 1 ≤ d.s ∧ 1 ≤ d.t := by
  unfold mayB
  simp only [Bool.and_eq_true, decide_eq_true_eq, twoB_iff]
  exact ⟨fun ⟨⟨⟨⟨⟨h1, h2⟩, h3⟩, h4⟩, h5⟩, h6⟩ => ⟨h1, h2, h3, h4, h5, h6⟩, fun ⟨h1, h2, h3, h4, h5, h6⟩ => ⟨⟨⟨⟨⟨h1, h2⟩, h3⟩, h4⟩, h5⟩, h6⟩⟩
theorem mayB_mir {d : Dl} {mem cur : Int} : mayB d.mir mem cur = mayB d mem cur := by
  rw [Bool.eq_iff_iff, mayB_iff, mayB_iff]; unfold Dl.mir; dsimp only; omega

/-- what a book knows of an Id -/
structure En where
  d : Dl
  st : Int
  ask : Int
  nth : Int
deriving DecidableEq, Inhabited
def En.open (e : En) : Bool := decide (e.st = 1) || decide (e.st = 2)
/-- as who a member may speak -/
def En.side (e : En) (m : Int) : Int := if m = e.d.a then 1 else if m = e.d.b ∧ e.st ≠ 1 then 2 else 0
/-- one side asks: of an open one -/
def En.asks (e : En) (side : Int) : En :=
  if e.st = 1 then { e with st := 4 }
  else
    let k : Int := if e.ask = 0 then side else 3
    if k = 3 then { e with ask := k, st := 4 } else { e with ask := k }
/-- may it stand so? -/
def En.may (e : En) : Bool :=
  if e.st = 1 then !decide (0 < e.nth) && decide (e.ask = 0)
  else if e.st = 2 ∨ e.st = 3 then decide (0 < e.nth) && decide (e.ask < 3)
  else if e.st = 4 then decide (e.ask = 0) || (decide (0 < e.nth) && decide (e.ask ≤ 3))
  else false

/-- a book -/
structure Bk where
  mem : Int
  cur : Int
  l : List En
  many : Nat
/-- an Id's place -/
def atL : List En → Int → Option Nat
  | [], _ => none
  | e :: r, id => if e.d.id = id then some 0 else (atL r id).map (· + 1)
theorem atL_some : ∀ {l : List En} {id : Int} {i : Nat}, atL l id = some i → ∃ h : i < l.length, l[i].d.id = id
  | [], _, _, h => by simp [atL] at h
  | e :: r, id, i, h => by
    unfold atL at h
    split at h
    · cases h; exact ⟨by simp, by simpa⟩
    · obtain ⟨j, hj, rfl⟩ := Option.map_eq_some_iff.1 h
      obtain ⟨h1, h2⟩ := atL_some hj
      exact ⟨by simp; omega, by simpa using h2⟩
theorem atL_none : ∀ {l : List En} {id : Int}, atL l id = none → ∀ e ∈ l, e.d.id ≠ id
  | [], _, _, e, he => by simp at he
  | x :: r, id, h, e, he => by
    unfold atL at h
    split at h
    · cases h
    · have h2 : atL r id = none := by simpa using h
      rcases List.mem_cons.1 he with rfl | he
      · assumption
      · exact atL_none h2 e he
theorem atL_of_none : ∀ {l : List En} {id : Int}, (∀ e ∈ l, e.d.id ≠ id) → atL l id = none
  | [], _, _ => rfl
  | x :: r, id, h => by
    unfold atL
    rw [if_neg (h x (by simp)), atL_of_none fun e he => h e (by simp [he])]; rfl
theorem atL_app : ∀ (l : List En) (e : En) (id : Int), atL (l ++ [e]) id = match atL l id with | some i => some i | none => if e.d.id = id then some l.length else none
  | [], e, id => by simp [atL]
  | x :: r, e, id => by
    rw [List.cons_append]
    unfold atL
    split
    · rfl
    · rw [atL_app r e id]
      rcases atL r id with _ | j
      · simp only [Option.map_none]
        split <;> simp
      · simp
/-- the Ids do not turn -/
theorem atL_set : ∀ (l : List En) (i : Nat) (e : En) (id : Int), (∀ h : i < l.length, e.d.id = l[i].d.id) → atL (l.set i e) id = atL l id
  | [], _, _, _, _ => by simp
  | x :: r, 0, e, id, h => by
    have := h (by simp)
    simp at this
    simp [atL, this]
  | x :: r, i + 1, e, id, h => by
    rw [List.set_cons_succ]
    unfold atL
    rw [atL_set r i e id fun hl => by have := h (by simpa using hl); rw [this, List.getElem_cons_succ]]
theorem atL_get : ∀ {l : List En} {i : Nat} (h : i < l.length), (l.map (·.d.id)).Nodup → atL l l[i].d.id = some i
  | [], i, h, _ => by simp at h
  | x :: r, 0, h, _ => by simp [atL]
  | x :: r, i + 1, h, hn => by
    rw [List.map_cons, List.nodup_cons] at hn
    unfold atL
    have hl : i < r.length := by simpa using h
    rw [if_neg (fun e => hn.1 (by rw [e]; simp only [List.getElem_cons_succ]; exact List.mem_map.2 ⟨r[i], List.getElem_mem hl, rfl⟩))]
    simp only [List.getElem_cons_succ]
    rw [atL_get hl hn.2]; rfl

/-- Submit -/
def Bk.sub (b : Bk) (d : Dl) : (Bool × Int) × Bk :=
  if mayB d b.mem b.cur = false then ((false, 1), b)
  else match atL b.l d.id with
    | none => if 200 ≤ b.l.length then ((false, 4), b) else ((false, 0), { b with l := b.l ++ [⟨d, 1, 0, 0⟩] })
    | some i =>
      let x := b.l.getD i default
      if x.st ≠ 1 ∨ x.d.a = d.a then ((false, 6), b)
      else if d ≠ x.d.mir then ((false, 12), b)
      else ((true, 0), { b with l := b.l.set i { x with st := 2, nth := (b.many : Int) + 1 }, many := b.many + 1 })
/-- Rescind -/
def Bk.res (b : Bk) (m id : Int) : (Int × Int) × Bk :=
  match atL b.l id with
  | none => ((0, 5), b)
  | some i =>
    let x := b.l.getD i default
    if x.side m = 0 then ((0, 5), b)
    else if x.open = false then ((0, 7), b)
    else if x.ask = x.side m ∨ x.ask = 3 then ((0, 6), b)
    else (((x.asks (x.side m)).st, 0), { b with l := b.l.set i (x.asks (x.side m)) })
/-- Settle -/
def Bk.set (b : Bk) (id : Int) : Int × Bk :=
  match atL b.l id with
  | none => (5, b)
  | some i =>
    let x := b.l.getD i default
    if x.st ≠ 2 then (7, b) else (0, { b with l := b.l.set i { x with st := 3 } })
/-- one that is removed -/
def En.hit (e : En) (m : Int) : Bool := e.open && (decide (e.d.a = m) || decide (e.d.b = m))
def En.rem (e : En) (m : Int) : En := if e.hit m then { e with st := 4 } else e
/-- Remove -/
def Bk.rem (b : Bk) (m : Int) : List Int × Bk := ((b.l.filter (·.hit m)).map (·.d.id), { b with l := b.l.map (·.rem m) })
def Bk.state (b : Bk) (id : Int) : Int := match atL b.l id with | none => 0 | some i => (b.l.getD i default).st
def Bk.deal (b : Bk) (id : Int) : Dl × Bool := match atL b.l id with | none => (zeroD, false) | some i => ((b.l.getD i default).d, true)
/-- All: of those that are matched, by the order in which they were -/
def lowest (l : List En) : List En := l.mergeSort fun x y => decide (x.nth ≤ y.nth)
def Bk.all (b : Bk) (st : Int) : List Int :=
  let those := b.l.filter fun e => decide (e.st = st)
  (if st = 2 then lowest those else those).map (·.d.id)

/-- what a book keeps to -/
structure Bk.Ok (b : Bk) : Prop where
  mem : 1 ≤ b.mem ∧ b.mem ≤ 16
  cur : 1 ≤ b.cur ∧ b.cur ≤ 8
  len : b.l.length ≤ 200
  ids : (b.l.map (·.d.id)).Nodup
  may : ∀ e ∈ b.l, mayB e.d b.mem b.cur = true ∧ e.d.In ∧ e.may = true ∧ 0 ≤ e.ask ∧ 0 ≤ e.nth ∧ e.nth ≤ (b.many : Int)
  nth : ((b.l.filter fun e => decide (0 < e.nth)).map (·.nth)).Perm ((List.range b.many).map fun (k : Nat) => (k : Int) + 1)
end Go.Proofs.YthocnlalahknjaaGreat.Dd
namespace Go.Proofs.YthocnlalahknjaaGreat.Dd
open Go.RowKit
set_option linter.unusedVariables false

/-- but for F's blocks all is as it was -/
structure Kp (F : Nat → Prop) (w w' : World) : Prop where
  os : w'.os = w.os
  tape : w'.tape = w.tape
  output : w'.output = w.output
  size : w.heap.size ≤ w'.heap.size
  block : ∀ j, j < w.heap.size → ¬ F j → w'.heap[j]? = w.heap[j]?
theorem Kp.refl (F : Nat → Prop) (w : World) : Kp F w w := ⟨rfl, rfl, rfl, Nat.le_refl _, fun _ _ _ => rfl⟩
theorem Kp.trans {F : Nat → Prop} {a b c : World} (h : Kp F a b) (k : Kp F b c) : Kp F a c :=
  ⟨k.os.trans h.os, k.tape.trans h.tape, k.output.trans h.output, Nat.le_trans h.size k.size, fun j hj hF => (k.block j (Nat.lt_of_lt_of_le hj h.size) hF).trans (h.block j hj hF)⟩
theorem Kp.mono {F G : Nat → Prop} {w w' : World} (h : Kp F w w') (hF : ∀ j, j < w.heap.size → F j → G j) : Kp G w w' :=
  ⟨h.os, h.tape, h.output, h.size, fun j hj hG => h.block j hj fun hf => hG (hF j hj hf)⟩
/-- two steps, the second of which may turn what is new -/
theorem Kp.then {F G : Nat → Prop} {a b c : World} (h : Kp F a b) (k : Kp G b c) (hG : ∀ j, j < a.heap.size → G j → F j) : Kp F a c :=
  ⟨k.os.trans h.os, k.tape.trans h.tape, k.output.trans h.output, Nat.le_trans h.size k.size, fun j hj hF => (k.block j (Nat.lt_of_lt_of_le hj h.size) fun g => hF (hG j hj g)).trans (h.block j hj hF)⟩
theorem Kp.of_below {F : Nat → Prop} {w w' : World} (h : Below w.heap.size w w') : Kp F w w' := ⟨h.os, h.tape, h.output, h.size, fun j hj _ => h.block j hj⟩
theorem Kp.below {F : Nat → Prop} {w w' : World} {B : Nat} (h : Kp F w w') (hB : B ≤ w.heap.size) (hF : ∀ j, j < B → ¬ F j) : Below B w w' :=
  ⟨h.os, h.tape, h.output, h.size, fun j hj => h.block j (by omega) (hF j hj)⟩
theorem Kp.setCell {F : Nat → Prop} {a w : World} (h : Kp F a w) {p : Addr} (hp : F p.block ∨ a.heap.size ≤ p.block) (u : Value) : Kp F a (w.setCell p u) :=
  ⟨h.os, h.tape, h.output, by simpa using h.size, fun j hj hF => (Below.heap_setCell _ _ _ _ (by rintro rfl; rcases hp with hp | hp; exact hF hp; omega)).trans (h.block j hj hF)⟩
theorem Kp.alloc {F : Nat → Prop} {a w : World} (h : Kp F a w) (o : Obj) : Kp F a (w.alloc o) :=
  ⟨h.os, h.tape, h.output, by simp; have := h.size; omega, fun j hj hF => (Below.heap_alloc _ _ _ (Nat.lt_of_lt_of_le hj h.size)).trans (h.block j hj hF)⟩
theorem Kp.drewN {F : Nat → Prop} {a w : World} (h : Kp F a w) (n : Nat) : Kp F a (w.drewN n) := ⟨h.os, h.tape, h.output, h.size, h.block⟩
theorem Kp.drew {F : Nat → Prop} {a w : World} (h : Kp F a w) : Kp F a w.drew := ⟨h.os, h.tape, h.output, h.size, h.block⟩
theorem Kp.grown {F : Nat → Prop} {a w w' : World} {row : Option Nat} (h : Kp F a w) (hg : w.grownBy w' row) (hr : ∀ k, row = some k → F k ∨ a.heap.size ≤ k) : Kp F a w' :=
  ⟨hg.os.trans h.os, hg.tape.trans h.tape, hg.output.trans h.output, Nat.le_trans h.size hg.size, fun j hj hF =>
    (hg.block j (Nat.lt_of_lt_of_le hj h.size) (fun e => by rcases hr j e.symm with h1 | h1; exact hF h1; omega)).trans (h.block j hj hF)⟩
theorem Kp.cell {F : Nat → Prop} {w w' : World} (h : Kp F w w') {p : Addr} {v : Value} (hc : w.cell? p = some v) (hn : ¬ F p.block) : w'.cell? p = some v :=
  (World.cell?_of_block (w := w) (h.block p.block (World.block_lt_of_cell? w p hc) hn)).trans hc
theorem Kp.froz {F : Nat → Prop} {w w' : World} (h : Kp F w w') {p : Addr} (hp : p.block < w.heap.size) (hn : ¬ F p.block) : w'.frozen? p = w.frozen? p :=
  World.frozen?_of_block (w := w) (h.block p.block hp hn)

theorem obj_lt {w : World} {b : Nat} {o : Obj} (h : w.heap[b]? = some o) : b < w.heap.size := (Array.getElem?_eq_some_iff.1 h).1
theorem obj_cell {w : World} {b : Nat} {cur : Array Value} {T : TypeId} (h : w.heap[b]? = some (.cells cur T (0, 0))) {i : Nat} {v : Value} (hi : cur[i]? = some v) : w.cell? ⟨b, i, none⟩ = some v := by
  rw [cell_of_row w b i cur T (0, 0) h, hi]
theorem obj_free {w : World} {b : Nat} {cur : Array Value} {T : TypeId} (h : w.heap[b]? = some (.cells cur T (0, 0))) (i : Nat) : w.frozen? ⟨b, i, none⟩ = false := by simp [World.frozen?, h]
theorem obj_set {w : World} {b : Nat} {cur : Array Value} {T : TypeId} (h : w.heap[b]? = some (.cells cur T (0, 0))) (i : Nat) (v : Value) : (w.setCell ⟨b, i, none⟩ v).heap[b]? = some (.cells (cur.setIfInBounds i v) T (0, 0)) := by
  simp [World.setCell, Array.getElem?_modify, h]
theorem obj_other {w : World} {a : Addr} {k : Nat} (v : Value) (h : k ≠ a.block) : (w.setCell a v).heap[k]? = w.heap[k]? := Below.heap_setCell w a v k h

/-- a thing in memory, with its blocks -/
structure Live (X : (Nat → Prop) → World → Prop) : Prop where
  kept : ∀ {P : Nat → Prop} {w w' : World} {F : Nat → Prop}, X P w → Kp F w w' → (∀ j, j < w.heap.size → P j → ¬ F j) → X P w'
  weak : ∀ {P Q : Nat → Prop} {w : World}, X P w → (∀ j, j < w.heap.size → P j → Q j) → X Q w

/-- two things that lie apart, beside what stays -/
def Apart (G : Nat → Prop) (X Y : (Nat → Prop) → World → Prop) (w : World) : Prop :=
  ∃ PF RF : Nat → Prop, X PF w ∧ Y RF w ∧ (∀ j, PF j → ¬ RF j ∧ ¬ G j ∧ j < w.heap.size) ∧ (∀ j, RF j → ¬ G j ∧ j < w.heap.size)

theorem Apart.swap {G : Nat → Prop} {X Y : (Nat → Prop) → World → Prop} {w : World} (h : Apart G X Y w) : Apart G Y X w := by
  obtain ⟨PF, RF, hX, hY, h1, h2⟩ := h
  exact ⟨RF, PF, hY, hX, fun j hj => ⟨fun hp => (h1 j hp).1 hj, h2 j hj⟩, fun j hj => (h1 j hj).2⟩
/-- a call of the first one's -/
theorem Apart.call {α : Type} {G : Nat → Prop} {X Y : (Nat → Prop) → World → Prop} {X' : α → (Nat → Prop) → World → Prop} {φ : α → Ending → Prop} {w : World} {f : FuncId} {args : Array Value}
    (lX : Live X) (lX' : ∀ x, Live (X' x)) (lY : Live Y) (hG : ∀ j, G j → j < w.heap.size) (h : Apart G X Y w)
    (hc : ∀ P : Nat → Prop, X P w → (∀ i, w.heap.size ≤ i → P i) → Calls Tryz.prog f args w fun e w' => ∃ x, φ x e ∧ X' x P w' ∧ Kp P w w') :
    Calls Tryz.prog f args w fun e w' => ∃ x, φ x e ∧ Apart G (X' x) Y w' ∧ Kp (fun j => ¬ G j) w w' := by
  obtain ⟨PF, RF, hX, hY, h1, h2⟩ := h
  refine (hc (fun j => PF j ∨ w.heap.size ≤ j) (lX.weak hX fun j _ hj => .inl hj) (fun i hi => .inr hi)).mono ?_
  rintro e w' ⟨x, he, hx, hK⟩
  refine ⟨x, he, ⟨fun j => (PF j ∨ w.heap.size ≤ j) ∧ j < w'.heap.size, RF, (lX' x).weak hx fun j hl hj => ⟨hj, hl⟩, lY.kept hY hK fun j hl hr hp => ?_, fun j hj => ⟨fun hr => ?_, fun hg => ?_, hj.2⟩, fun j hj => ⟨(h2 j hj).1, Nat.lt_of_lt_of_le (h2 j hj).2 hK.size⟩⟩, hK.mono fun j hl hp hg => ?_⟩
  · rcases hp with hp | hp
    · exact (h1 j hp).1 hr
    · omega
  · rcases hj.1 with hp | hp
    · exact (h1 j hp).1 hr
    · have := (h2 j hr).2; omega
  · rcases hj.1 with hp | hp
    · exact (h1 j hp).2.1 hg
    · have := hG j hg; omega
  · rcases hp with hp | hp
    · exact (h1 j hp).2.1 hg
    · omega
/-- a call that only reads, or makes what is new -/
theorem Apart.below {G : Nat → Prop} {X Y : (Nat → Prop) → World → Prop} {w w' : World} (lX : Live X) (lY : Live Y) (h : Apart G X Y w) (hb : Below w.heap.size w w') : Apart G X Y w' := by
  obtain ⟨PF, RF, hX, hY, h1, h2⟩ := h
  have k := Kp.of_below (F := fun _ => False) hb
  exact ⟨PF, RF, lX.kept hX k (fun _ _ _ h => h), lY.kept hY k (fun _ _ _ h => h), fun j hj => ⟨(h1 j hj).1, (h1 j hj).2.1, Nat.lt_of_lt_of_le (h1 j hj).2.2 hb.size⟩, fun j hj => ⟨(h2 j hj).1, Nat.lt_of_lt_of_le (h2 j hj).2 hb.size⟩⟩
/-- more stays: what has been made since -/
theorem Apart.more {G G' : Nat → Prop} {X Y : (Nat → Prop) → World → Prop} {w w' : World} (lX : Live X) (lY : Live Y) (h : Apart G X Y w) (hb : Below w.heap.size w w') (hG : ∀ j, j < w.heap.size → G' j → G j) : Apart G' X Y w' := by
  obtain ⟨PF, RF, hX, hY, h1, h2⟩ := h
  have k := Kp.of_below (F := fun _ => False) hb
  exact ⟨PF, RF, lX.kept hX k (fun _ _ _ h => h), lY.kept hY k (fun _ _ _ h => h), fun j hj => ⟨(h1 j hj).1, fun hg => (h1 j hj).2.1 (hG j (h1 j hj).2.2 hg), Nat.lt_of_lt_of_le (h1 j hj).2.2 hb.size⟩, fun j hj => ⟨fun hg => (h2 j hj).1 (hG j (h2 j hj).2 hg), Nat.lt_of_lt_of_le (h2 j hj).2 hb.size⟩⟩
/-- what the first one is -/
theorem Apart.map {G : Nat → Prop} {X X' Y : (Nat → Prop) → World → Prop} {w : World} (h : Apart G X Y w) (f : ∀ P, X P w → X' P w) : Apart G X' Y w := by
  obtain ⟨PF, RF, hX, hY, r⟩ := h; exact ⟨PF, RF, f _ hX, hY, r⟩

/-- a call of the first one's that reads the second one -/
theorem Apart.call2 {α : Type} {G : Nat → Prop} {X Y : (Nat → Prop) → World → Prop} {X' : α → (Nat → Prop) → World → Prop} {φ : α → Ending → Prop} {w : World} {f : FuncId} {args : Array Value}
    (lX : Live X) (lX' : ∀ x, Live (X' x)) (lY : Live Y) (hG : ∀ j, G j → j < w.heap.size) (h : Apart G X Y w)
    (hc : ∀ P Q : Nat → Prop, X P w → Y Q w → (∀ i, w.heap.size ≤ i → P i) → (∀ j, Q j → ¬ P j) → Calls Tryz.prog f args w fun e w' => ∃ x, φ x e ∧ X' x P w' ∧ Kp P w w') :
    Calls Tryz.prog f args w fun e w' => ∃ x, φ x e ∧ Apart G (X' x) Y w' ∧ Kp (fun j => ¬ G j) w w' := by
  obtain ⟨PF, RF, hX, hY, h1, h2⟩ := h
  refine (hc (fun j => PF j ∨ w.heap.size ≤ j) RF (lX.weak hX fun j _ hj => .inl hj) hY (fun i hi => .inr hi) (fun j hr hp => by
    rcases hp with hp | hp
    · exact (h1 j hp).1 hr
    · have := (h2 j hr).2; omega)).mono ?_
  rintro e w' ⟨x, he, hx, hK⟩
  refine ⟨x, he, ⟨fun j => (PF j ∨ w.heap.size ≤ j) ∧ j < w'.heap.size, RF, (lX' x).weak hx fun j hl hj => ⟨hj, hl⟩, lY.kept hY hK fun j hl hr hp => ?_, fun j hj => ⟨fun hr => ?_, fun hg => ?_, hj.2⟩, fun j hj => ⟨(h2 j hj).1, Nat.lt_of_lt_of_le (h2 j hj).2 hK.size⟩⟩, hK.mono fun j hl hp hg => ?_⟩
  · rcases hp with hp | hp
    · exact (h1 j hp).1 hr
    · omega
  · rcases hj.1 with hp | hp
    · exact (h1 j hp).1 hr
    · have := (h2 j hr).2; omega
  · rcases hj.1 with hp | hp
    · exact (h1 j hp).2.1 hg
    · have := hG j hg; omega
  · rcases hp with hp | hp
    · exact (h1 j hp).2.1 hg
    · omega
theorem Apart.less {G G' : Nat → Prop} {X Y : (Nat → Prop) → World → Prop} {w : World} (h : Apart G' X Y w) (hG : ∀ j, G j → G' j) : Apart G X Y w := by
  obtain ⟨PF, RF, hX, hY, h1, h2⟩ := h
  exact ⟨PF, RF, hX, hY, fun j hj => ⟨(h1 j hj).1, fun hg => (h1 j hj).2.1 (hG j hg), (h1 j hj).2.2⟩, fun j hj => ⟨fun hg => (h2 j hj).1 (hG j hg), (h2 j hj).2⟩⟩

/-- a write to what stays -/
theorem Apart.kp {G F : Nat → Prop} {X Y : (Nat → Prop) → World → Prop} {w w' : World} (lX : Live X) (lY : Live Y) (h : Apart G X Y w) (hK : Kp F w w') (hF : ∀ j, F j → G j) : Apart G X Y w' := by
  obtain ⟨PF, RF, hX, hY, h1, h2⟩ := h
  exact ⟨PF, RF, lX.kept hX hK fun j _ hp hf => (h1 j hp).2.1 (hF j hf), lY.kept hY hK fun j _ hp hf => (h2 j hp).1 (hF j hf), fun j hj => ⟨(h1 j hj).1, (h1 j hj).2.1, Nat.lt_of_lt_of_le (h1 j hj).2.2 hK.size⟩, fun j hj => ⟨(h2 j hj).1, Nat.lt_of_lt_of_le (h2 j hj).2 hK.size⟩⟩

theorem enc_cell {w : World} {g j : Nat} {u : Value} : w.cell? ((⟨g, 0, none⟩ : Addr).add j) = some u → w.cell? ⟨g, j, none⟩ = some u := fun h => by
  have e : (⟨g, 0, none⟩ : Addr).add j = ⟨g, j, none⟩ := by unfold Addr.add; split <;> simp_all
  rwa [e] at h
section
variable {w w' : World} {T k n : Nat} {v : Value} {xs : List Value}
theorem orow_kept (h : w.ownsRow 0 T k v n xs) (hb : ∀ g, v.ownBlock = some g → w'.heap[g]? = w.heap[g]?) : w'.ownsRow 0 T k v n xs := by
  refine ⟨h.1, ?_⟩
  rcases h.2 with hn | ⟨g, cap, cur, rfl, hb0, hgg, rest⟩
  · exact .inl hn
  · exact .inr ⟨g, cap, cur, rfl, hb0, (hb g rfl).trans hgg, rest⟩
theorem orow_kp {F : Nat → Prop} (h : w.ownsRow 0 T k v n xs) (hK : Kp F w w') (hF : ∀ g, v.ownBlock = some g → ¬ F g) : w'.ownsRow 0 T k v n xs :=
  orow_kept h fun g hg => hK.block g (World.ownsRow.lt h g hg).2 (hF g hg)
theorem orow_shape (h : w.ownsRow 0 T k v n xs) : ∃ p cap, v = .slice p n cap ∧ n ≤ cap ∧ (∀ a, p = some a → a.spot = none) ∧ (0 < n → ∃ a, p = some a) := by
  rcases h.2 with ⟨rfl, h0⟩ | ⟨g, cap, cur, rfl, _, _, hn, _⟩
  · exact ⟨none, 0, by rw [h0], by omega, (fun a h => by cases h), fun h => by omega⟩
  · exact ⟨_, cap, rfl, hn, (fun a h => by cases h; rfl), fun _ => ⟨_, rfl⟩⟩
/-- a row that holds something -/
theorem orow_some (h : w.ownsRow 0 T k v n xs) (h0 : 0 < n) : ∃ (g cap : Nat) (cur : Array Value), v = .slice (some ⟨g, 0, none⟩) n cap ∧ w.heap[g]? = some (.cells cur T (0, 0)) ∧ n ≤ cap ∧ cap ≤ maxLen ∧ cur.size = cap * k ∧ ∀ (j : Nat) (u : Value), xs[j]? = some u → cur[j]? = some u := by
  rcases h.2 with ⟨rfl, h1⟩ | ⟨g, cap, cur, rfl, _, hg, hn, hc, hs, ht⟩
  · omega
  · refine ⟨g, cap, cur, rfl, hg, hn, hc, hs, fun j u hj => ?_⟩
    rw [← ht, List.getElem?_take] at hj
    split at hj
    · rwa [Array.getElem?_toList] at hj
    · cases hj
theorem orow_cell (h : w.ownsRow 0 T k v n xs) {g j : Nat} {u : Value} (hg : v.ownBlock = some g) (hj : xs[j]? = some u) : w.cell? ⟨g, j, none⟩ = some u :=
  enc_cell (World.ownsRow.cells h hg j u hj)
theorem orow_free (h : w.ownsRow 0 T k v n xs) {g : Nat} (hg : v.ownBlock = some g) (j : Nat) : w.frozen? ⟨g, j, none⟩ = false := by
  rcases h.2 with ⟨rfl, h1⟩ | ⟨g', cap, cur, rfl, _, hgg, _⟩
  · simp [Value.ownBlock] at hg
  · simp [Value.ownBlock] at hg
    subst hg
    exact obj_free hgg j
/-- a cell of it is another one -/
theorem orow_set (h : w.ownsRow 0 T k v n xs) {g j : Nat} (hg : v.ownBlock = some g) (hj : j < xs.length) (u : Value) : (w.setCell ⟨g, j, none⟩ u).ownsRow 0 T k v n (xs.set j u) := by
  obtain ⟨h1, h2⟩ := h
  refine ⟨by rw [List.length_set]; exact h1, ?_⟩
  rcases h2 with ⟨rfl, h3⟩ | ⟨g', cap, cur, rfl, hb, hgg, hn, hc, hs, ht⟩
  · simp [Value.ownBlock] at hg
  · simp [Value.ownBlock] at hg
    subst hg
    refine .inr ⟨g', cap, cur.setIfInBounds j u, rfl, hb, obj_set hgg j u, hn, hc, by simpa using hs, ?_⟩
    rw [← ht, Array.toList_setIfInBounds, List.take_set]
end
/-- one more is appended: where the row lies then -/
theorem app1_run (S T k bytes : Nat) (z : Value) (hS : Tryz.prog.underlying S = some (.slice T)) (hI : (Tryz.prog.info? T).map (fun i => (i.zero, i.size, i.bytes)) = some (some z, k, bytes)) (hk : z.cells.size = k) (hk0 : 0 < k) (hb : bytes ≤ 1000)
    (w : World) (v : Value) (n : Nat) (xs : List Value) (h : w.ownsRow 0 T k v n xs) (a : Addr) (news : List Value) (hl : news.length = k) (hx : ∀ j u, news[j]? = some u → w.cell? (a.add j) = some u) (h1 : ∀ u ∈ news, u.oneCell' = true) (hs : n + 1 ≤ 16777216) :
    ∃ v' w', (Builtin.append_ #[S, S] S #[v, .slice (some a) 1 1]).run Tryz.prog w = .ok v' w' ∧ w'.ownsRow 0 T k v' (n + 1) (xs ++ news) ∧ w.grownBy w' v.ownBlock ∧ (∀ g, v'.ownBlock = some g → v.ownBlock = some g ∨ w.heap.size ≤ g) := by
  obtain ⟨i, hi, hz0, hz1, hz2⟩ := info_parts hI
  have hby : (n + 1) * bytes ≤ 140737488355328 := Nat.le_trans (Nat.mul_le_mul hs hb) (by decide)
  obtain ⟨v', w', hr, ho, hg, _⟩ := run_append_own (P := Tryz.prog) w 0 S S T i z k bytes hS hi hz0 hz1 hz2 hk hk0 v n xs h a 1 1 news (by omega) hx h1 (by unfold maxLen; omega) hby (by omega)
  refine ⟨v', w', hr, ho, hg, fun g hv => ?_⟩
  rcases h.2 with ⟨rfl, h0⟩ | ⟨g', cap, cur, rfl, hb, hh, hn, hc, hcs, ht⟩
  · subst h0
    have hxs : xs = [] := List.eq_nil_of_length_eq_zero (by rw [h.1]; omega)
    subst hxs
    obtain ⟨v2, w2, hr2, ho2, _⟩ := run_append_own (P := Tryz.prog) w w.heap.size S S T i z k bytes hS hi hz0 hz1 hz2 hk hk0 (.slice none 0 0) 0 [] (World.ownsRow_nil w _ T k) a 1 1 news (by omega) hx h1 (by unfold maxLen; omega) (by omega) (by omega)
    rw [hr] at hr2
    injection hr2 with e1 e2
    subst e1; subst e2
    exact .inr (World.ownsRow.lt ho2 g hv).1
  · by_cases hroom : n + 1 ≤ cap
    · have hr2 := run_append_room (P := Tryz.prog) w S S T i hS hi g' n cap cur hh a 1 1 news (by rw [hz1]; omega) hx h1 hroom (by rw [hz1, hcs, hl]; have := Nat.mul_le_mul_right k hroom; rw [Nat.add_mul] at this; omega)
      rw [hr] at hr2
      injection hr2 with e1 e2
      subst e1
      exact .inl hv
    · have holds : ∀ j u, xs[j]? = some u → w.cell? ((⟨g', 0, none⟩ : Addr).add j) = some u := World.ownsRow.cells h (g := g') rfl
      have hr2 := run_append_grow (P := Tryz.prog) w S S T i z hS hi hz0 ⟨g', 0, none⟩ n cap xs (by rw [hz1]; exact h.1) holds a 1 1 news (by rw [hz1]; omega) hx (by omega) (by omega) (by rw [hz2]; exact growslice_fits (by omega) hby)
      rw [hr] at hr2
      injection hr2 with e1 e2
      subst e1
      simp [Value.ownBlock] at hv
      exact .inr (by omega)
theorem wpList_app1 (S T k bytes : Nat) (z : Value) (hS : Tryz.prog.underlying S = some (.slice T)) (hI : (Tryz.prog.info? T).map (fun i => (i.zero, i.size, i.bytes)) = some (some z, k, bytes)) (hk : z.cells.size = k) (hk0 : 0 < k) (hb : bytes ≤ 1000)
    {ops : Array Oper} {rest : List Oper} {o : Oper} {a : Act} {w : World} {Q : Exit → Act → World → Prop} (hgd : o.guard = none) (sl x : Operand) (hty : o.type = S)
    (ho : o.op = .call { callee := .builtin .append, args := #[sl, x], argTypes := #[S, S] })
    (v : Value) (n : Nat) (xs : List Value) (hs : a.eval sl = v) (hrow : w.ownsRow 0 T k v n xs) (b : Addr) (news : List Value) (hx : a.eval x = .slice (some b) 1 1) (hl : news.length = k) (hnew : ∀ j u, news[j]? = some u → w.cell? (b.add j) = some u) (h1 : ∀ u ∈ news, u.oneCell' = true) (hn : n + 1 ≤ 16777216)
    (h : ∀ v' w', w'.ownsRow 0 T k v' (n + 1) (xs ++ news) → w.grownBy w' v.ownBlock → (∀ g, v'.ownBlock = some g → v.ownBlock = some g ∨ w.heap.size ≤ g) → wpList Tryz.prog ops Q rest (a.put o.dst v') w') : wpList Tryz.prog ops Q (o :: rest) a w := by
  refine wpList_plain hgd fun K hK => ?_
  obtain ⟨v', w', hr, h2, h3, h4⟩ := app1_run S T k bytes z hS hI hk hk0 hb w v n xs hrow b news hl hnew h1 hn
  unfold Oper.wp execOp
  simp only [ho, hty, resolve, invoke, builtin, Sem.run_bind, Sem.run_pure, Result.andThen_ok, List.map_toArray, List.map_cons, List.map_nil, hs, hx, hr]
  exact hK _ _ (h v' w' h2 h3 h4)
theorem step_app {P : Program} {ops : Array Oper} {o : Oper} {a : Act} {w : World} {K : Act → World → Prop} {Q : Exit → Act → World → Prop} {E : Prop}
    (hg : o.guard = none) (s x : Operand) (t t' : TypeId) (hop : o.op = Op.call { callee := Callee.builtin Builtin.append, args := #[s, x], argTypes := #[t, t'] })
    (v y v' : Value) (w' : World) (hs : a.eval s = v) (hx : a.eval x = y) (hr : (Builtin.append_ #[t, t'] o.type #[v, y]).run P w = .ok v' w') (hK : K (a.put o.dst v') w') :
    if Region.wanted o (yielded ops a.tmps) = true then Oper.wp P o a w K Q else E := by
  have hw : Region.wanted o (yielded ops a.tmps) = true := by simp [Region.wanted, hg]
  rw [if_pos hw]
  unfold Oper.wp
  simp [execOp, hop, resolve, invoke, builtin, hs, hx, hr, Result.andThen]
  exact hK
/-- rows of amounts that are 0 -/
def zi (n : Nat) : Array Value := madeCells #[Value.int .i64 0] n
end Go.Proofs.YthocnlalahknjaaGreat.Dd
namespace Go.Proofs.YthocnlalahknjaaGreat.Dd
open Go.RowKit
set_option linter.unusedVariables false

theorem new_two (w : World) (o o' : Obj) : ((w.alloc o).alloc o').heap[w.heap.size + 1]? = some o' := by
  have := heap_alloc_new (w.alloc o) o'
  simpa using this
def iv (x : Int) : Value := .int .i64 x
def Dl.val (d : Dl) : Value := .agg #[.int .i64 d.id, .int .i64 d.a, .int .i64 d.b, .int .i64 d.sc, .int .i64 d.bc, .int .i64 d.s, .int .i64 d.t]
def En.val (e : En) : Value := .agg #[.int .i64 e.d.id, .int .i64 e.d.a, .int .i64 e.d.b, .int .i64 e.d.sc, .int .i64 e.d.bc, .int .i64 e.d.s, .int .i64 e.d.t, .int .i64 e.st, .int .i64 e.ask, .int .i64 e.nth]
def En.cs (e : En) : List Value := [.int .i64 e.d.id, .int .i64 e.d.a, .int .i64 e.d.b, .int .i64 e.d.sc, .int .i64 e.d.bc, .int .i64 e.d.s, .int .i64 e.d.t, .int .i64 e.st, .int .i64 e.ask, .int .i64 e.nth]
theorem En.cs_len (e : En) : e.cs.length = 10 := rfl
theorem En.cs_one (e : En) : ∀ u ∈ e.cs, u.oneCell' = true := by
  intro u hu; unfold En.cs at hu; simp at hu; rcases hu with rfl | rfl | rfl | rfl | rfl | rfl | rfl | rfl | rfl | rfl <;> rfl
def cellsE (l : List En) : List Value := l.flatMap En.cs
theorem cellsE_len (l : List En) : (cellsE l).length = l.length * 10 := by
  unfold cellsE
  induction l with
  | nil => rfl
  | cons x l ih => rw [List.flatMap_cons, List.length_append, ih, En.cs_len]; simp; omega
theorem cellsE_app (l : List En) (e : En) : cellsE (l ++ [e]) = cellsE l ++ e.cs := by unfold cellsE; simp
theorem cellsE_cons (e : En) (l : List En) : cellsE (e :: l) = e.cs ++ cellsE l := by unfold cellsE; simp
theorem cellsE_at : ∀ {l : List En} {i : Nat} (h : i < l.length) (j : Nat), j < 10 → (cellsE l)[i * 10 + j]? = l[i].cs[j]?
  | [], i, h, j, _ => by simp at h
  | x :: r, 0, h, j, hj => by rw [cellsE_cons, Nat.zero_mul, Nat.zero_add, List.getElem?_append_left (by rw [En.cs_len]; exact hj)]; rfl
  | x :: r, i + 1, h, j, hj => by
    rw [cellsE_cons, List.getElem?_append_right (by rw [En.cs_len]; omega), En.cs_len]
    have e : (i + 1) * 10 + j - 10 = i * 10 + j := by omega
    rw [e, cellsE_at (by simpa using h) j hj]; rfl
/-- one cell of one entry is another one -/
theorem cellsE_set : ∀ {l : List En} {i : Nat} (h : i < l.length) (j : Nat) (u : Value) (e : En), j < 10 → l[i].cs.set j u = e.cs → (cellsE l).set (i * 10 + j) u = cellsE (l.set i e)
  | [], i, h, j, u, e, _, _ => by simp at h
  | x :: r, 0, h, j, u, e, hj, he => by
    have he' : x.cs.set j u = e.cs := he
    rw [cellsE_cons, Nat.zero_mul, Nat.zero_add, List.set_append_left _ _ (by rw [En.cs_len]; exact hj), he', List.set_cons_zero, cellsE_cons]
  | x :: r, i + 1, h, j, u, e, hj, he => by
    rw [cellsE_cons, List.set_append_right _ _ (by rw [En.cs_len]; omega), En.cs_len]
    have e2 : (i + 1) * 10 + j - 10 = i * 10 + j := by omega
    rw [e2, cellsE_set (by simpa using h) j u e hj (by simpa using he), List.set_cons_succ, cellsE_cons]

set_option maxHeartbeats 1000000 in
set_option maxRecDepth 100000 in
theorem two_any (x y n : Int) (w : World) : Calls Tryz.prog 74 #[.int .i64 x, .int .i64 y, .int .i64 n] w fun e w' => e = .returned (.bool (twoB x y n)) ∧ w = w' := by
  by_cases a1 : 0 ≤ x <;> by_cases a2 : x < n <;> by_cases a3 : 0 ≤ y <;> by_cases a4 : y < n <;> by_cases a5 : x = y
  all_goals
    go_enter Tryz.func74, Tryz.ntmps74
    go_wp2
    go_ret
    exact ⟨by simp [twoB, a1, a2, a3, a4, a5], rfl⟩
set_option maxHeartbeats 1000000 in
set_option maxRecDepth 100000 in
theorem mayBe_any (d : Dl) (mem cur : Int) (w : World) : Calls Tryz.prog 46 #[d.val, .int .i64 mem, .int .i64 cur] w fun e w' => e = .returned (.bool (mayB d mem cur)) ∧ Below w.heap.size w w' := by
  have c1 := two_any d.a d.b mem
  have c2 := two_any d.sc d.bc cur
  have em : mayB d mem cur = (decide (1 ≤ d.id) && decide (d.id ≤ 2147483647) && twoB d.a d.b mem && twoB d.sc d.bc cur && decide (1 ≤ d.s) && decide (1 ≤ d.t)) := rfl
  unfold Dl.val
  by_cases a1 : 1 ≤ d.id
  · have q0 : decide (1 ≤ d.id) = true := decide_eq_true a1
    rw [q0] at em
    by_cases a2 : d.id ≤ 2147483647
    · have q1 : decide (d.id ≤ 2147483647) = true := decide_eq_true a2
      rw [q1] at em
      rcases q2 : twoB d.a d.b mem with _ | _
      · rw [q2] at em c1
        clear q2
        replace em : mayB d mem cur = false := em
        rw [em]
        clear em
        go_enter Tryz.func46, Tryz.ntmps46
        go_wp2_with (go_at_call 74; first | ((with_reducible refine (c1 _).mono ?_); rintro e w' ⟨rfl, rfl⟩) | ((with_reducible refine (c2 _).mono ?_); rintro e w' ⟨rfl, rfl⟩))
        go_ret
        exact ⟨by simp [*], (Below.refl _ _).alloc (Nat.le_refl _) _⟩
      · rw [q2] at em c1
        clear q2
        rcases q3 : twoB d.sc d.bc cur with _ | _
        · rw [q3] at em c2
          clear q3
          replace em : mayB d mem cur = false := em
          rw [em]
          clear em
          go_enter Tryz.func46, Tryz.ntmps46
          go_wp2_with (go_at_call 74; first | ((with_reducible refine (c1 _).mono ?_); rintro e w' ⟨rfl, rfl⟩) | ((with_reducible refine (c2 _).mono ?_); rintro e w' ⟨rfl, rfl⟩))
          go_ret
          exact ⟨by simp [*], (Below.refl _ _).alloc (Nat.le_refl _) _⟩
        · rw [q3] at em c2
          clear q3
          by_cases a5 : 1 ≤ d.s
          · have q4 : decide (1 ≤ d.s) = true := decide_eq_true a5
            rw [q4] at em
            by_cases a6 : 1 ≤ d.t
            · have q5 : decide (1 ≤ d.t) = true := decide_eq_true a6
              rw [q5] at em
              replace em : mayB d mem cur = true := em
              rw [em]
              clear em
              go_enter Tryz.func46, Tryz.ntmps46
              go_wp2_with (go_at_call 74; first | ((with_reducible refine (c1 _).mono ?_); rintro e w' ⟨rfl, rfl⟩) | ((with_reducible refine (c2 _).mono ?_); rintro e w' ⟨rfl, rfl⟩))
              go_ret
              exact ⟨by simp [*], (Below.refl _ _).alloc (Nat.le_refl _) _⟩
            · have q5 : decide (1 ≤ d.t) = false := decide_eq_false a6
              rw [q5] at em
              replace em : mayB d mem cur = false := em
              rw [em]
              clear em
              go_enter Tryz.func46, Tryz.ntmps46
              go_wp2_with (go_at_call 74; first | ((with_reducible refine (c1 _).mono ?_); rintro e w' ⟨rfl, rfl⟩) | ((with_reducible refine (c2 _).mono ?_); rintro e w' ⟨rfl, rfl⟩))
              go_ret
              exact ⟨by simp [*], (Below.refl _ _).alloc (Nat.le_refl _) _⟩
          · have q4 : decide (1 ≤ d.s) = false := decide_eq_false a5
            rw [q4] at em
            replace em : mayB d mem cur = false := em
            rw [em]
            clear em
            go_enter Tryz.func46, Tryz.ntmps46
            go_wp2_with (go_at_call 74; first | ((with_reducible refine (c1 _).mono ?_); rintro e w' ⟨rfl, rfl⟩) | ((with_reducible refine (c2 _).mono ?_); rintro e w' ⟨rfl, rfl⟩))
            go_ret
            exact ⟨by simp [*], (Below.refl _ _).alloc (Nat.le_refl _) _⟩
    · have q1 : decide (d.id ≤ 2147483647) = false := decide_eq_false a2
      rw [q1] at em
      replace em : mayB d mem cur = false := em
      rw [em]
      clear em
      go_enter Tryz.func46, Tryz.ntmps46
      go_wp2_with (go_at_call 74; first | ((with_reducible refine (c1 _).mono ?_); rintro e w' ⟨rfl, rfl⟩) | ((with_reducible refine (c2 _).mono ?_); rintro e w' ⟨rfl, rfl⟩))
      go_ret
      exact ⟨by simp [*], (Below.refl _ _).alloc (Nat.le_refl _) _⟩
  · have q0 : decide (1 ≤ d.id) = false := decide_eq_false a1
    rw [q0] at em
    replace em : mayB d mem cur = false := em
    rw [em]
    clear em
    go_enter Tryz.func46, Tryz.ntmps46
    go_wp2_with (go_at_call 74; first | ((with_reducible refine (c1 _).mono ?_); rintro e w' ⟨rfl, rfl⟩) | ((with_reducible refine (c2 _).mono ?_); rintro e w' ⟨rfl, rfl⟩))
    go_ret
    exact ⟨by simp [*], (Below.refl _ _).alloc (Nat.le_refl _) _⟩

set_option maxHeartbeats 1000000 in
set_option maxRecDepth 100000 in
theorem mirror_any (d : Dl) (w : World) : Calls Tryz.prog 49 #[d.val] w fun e w' => e = .returned d.mir.val ∧ Below w.heap.size w w' := by
  unfold Dl.val Dl.mir
  go_enter Tryz.func49, Tryz.ntmps49
  go_wp2_with fail
  refine bodyPost_ret (results_cell_row rfl _ _ (w.heap.size + 1) 60 _ (0, 0) _ rfl (new_two w _ _) Tryz.underlying60 rfl (by kernel_rfl)) rfl ?_
  exact ⟨rfl, ((Below.refl _ _).alloc (Nat.le_refl _) _).alloc (by simp) _⟩
end Go.Proofs.YthocnlalahknjaaGreat.Dd
namespace Go.Proofs.YthocnlalahknjaaGreat.Dd
open Go.RowKit Go.Maps
set_option linter.unusedVariables false

theorem info65 : (Tryz.prog.info? 110).map (fun i => (i.zero, i.size, i.bytes)) = some (some (.agg #[.int .i64 0, .int .i64 0, .int .i64 0, .int .i64 0, .int .i64 0, .int .i64 0, .int .i64 0, .int .i64 0, .int .i64 0, .int .i64 0]), 10, 80) := by kernel_rfl
theorem info3 : (Tryz.prog.info? 3).map (fun i => (i.zero, i.size, i.bytes)) = some (some (.int .i64 0), 1, 8) := by kernel_rfl
theorem info5 : (Tryz.prog.info? 5).map (fun i => (i.zero, i.size, i.bytes)) = some (some (.int .u8 0), 1, 1) := by kernel_rfl
theorem keyInt : Keyed Tryz.prog 3 := int_keyed Tryz.underlying3
theorem key_int {x : Int} (h : In64 x) : keyOf Tryz.prog 3 (.int .i64 x) = some (.int .i64 x) := keyOf_int_mk Tryz.underlying3 (WalkArith.wf_i64 h)
theorem zero3 (w : World) : (zeroValue 3).run Tryz.prog w = .ok (.int .i64 0) w := by kernel_rfl
/-- where an Id stands is told by the map -/
structure IxD (D : DataW Value) (l : List En) : Prop where
  isMap : Maps.IsMap D
  has : ∀ id, In64 id → Maps.has D (.int .i64 id) = (atL l id).isSome
  at_ : ∀ id i, In64 id → atL l id = some i → D.atKey (.int .i64 id) (.lit (.int .i64 0)) = .lit (.int .i64 (i : Nat))

/-- a book in memory, with its row and its map -/
structure PBv (P : Nat → Prop) (w : World) (gb : Nat) (b : Bk) (v : Value) (mb : Nat) (D : DataW Value) : Prop where
  obj : w.heap[gb]? = some (.cells #[.int .i64 b.mem, .int .i64 b.cur, v, .map (some mb), .int .i64 (b.many : Nat)] 104 (0, 0))
  row : w.ownsRow 0 110 10 v b.l.length (cellsE b.l)
  map : w.ownsMap Tryz.prog 3 (plainElem Tryz.prog 3) mb b.l.length D
  ix : IxD D b.l
  pg : P gb
  pm : P mb
  pv : ∀ g, v.ownBlock = some g → P g
def PB (P : Nat → Prop) (w : World) (gb : Nat) (b : Bk) : Prop := ∃ v mb D, PBv P w gb b v mb D

theorem map_other {w : World} {mb n : Nat} {D : DataW Value} (h : w.ownsMap Tryz.prog 3 (plainElem Tryz.prog 3) mb n D) {g : Nat} {cs : Array Value} {T : TypeId} {fr : Nat × Nat} (hg : w.heap[g]? = some (.cells cs T fr)) : g ≠ mb := by
  rintro rfl
  obtain ⟨es, clock, h1, _⟩ := h
  rw [hg] at h1
  cases h1
theorem own_block {w w' : World} {mb n : Nat} {D : DataW Value} (h : w.ownsMap Tryz.prog 3 (plainElem Tryz.prog 3) mb n D) (hb : w'.heap[mb]? = w.heap[mb]?) : w'.ownsMap Tryz.prog 3 (plainElem Tryz.prog 3) mb n D := by
  obtain ⟨es, clock, h1, h2⟩ := h
  exact ⟨es, clock, hb.trans h1, h2⟩
section
variable {P Q F : Nat → Prop} {w w' : World} {gb : Nat} {b : Bk} {v : Value} {mb : Nat} {D : DataW Value}
theorem PBv.ng (h : PBv P w gb b v mb D) : gb ≠ mb := map_other h.map h.obj
theorem PBv.row_obj (h : PBv P w gb b v mb D) {g : Nat} (hg : v.ownBlock = some g) : ∃ cap cur, v = .slice (some ⟨g, 0, none⟩) b.l.length cap ∧ w.heap[g]? = some (.cells cur 110 (0, 0)) := by
  rcases h.row.2 with ⟨rfl, _⟩ | ⟨g', cap, cur, rfl, _, hh, _⟩
  · simp [Value.ownBlock] at hg
  · simp [Value.ownBlock] at hg
    subst hg
    exact ⟨cap, cur, rfl, hh⟩
theorem PBv.nv (h : PBv P w gb b v mb D) : v.ownBlock ≠ some gb := fun e => by
  obtain ⟨cap, cur, _, hh⟩ := h.row_obj e
  have := h.obj.symm.trans hh
  simp at this
theorem PBv.nm (h : PBv P w gb b v mb D) : v.ownBlock ≠ some mb := fun e => by
  obtain ⟨cap, cur, _, hh⟩ := h.row_obj e
  exact map_other h.map hh rfl
theorem PBv.lt (h : PBv P w gb b v mb D) : gb < w.heap.size := obj_lt h.obj
theorem PBv.kept (h : PBv P w gb b v mb D) (hK : Kp F w w') (hF : ∀ j, j < w.heap.size → P j → ¬ F j) : PBv P w' gb b v mb D :=
  ⟨(hK.block gb h.lt (hF gb h.lt h.pg)).trans h.obj, orow_kp h.row hK fun g hg => hF g (World.ownsRow.lt h.row g hg).2 (h.pv g hg),
    own_block h.map (hK.block mb h.map.lt (hF mb h.map.lt h.pm)), h.ix, h.pg, h.pm, h.pv⟩
theorem PBv.weak (h : PBv P w gb b v mb D) (hq : ∀ j, j < w.heap.size → P j → Q j) : PBv Q w gb b v mb D :=
  ⟨h.obj, h.row, h.map, h.ix, hq gb h.lt h.pg, hq mb h.map.lt h.pm, fun g hg => hq g (World.ownsRow.lt h.row g hg).2 (h.pv g hg)⟩
end
theorem PB.live (gb : Nat) (b : Bk) : Live fun P w => PB P w gb b :=
  ⟨fun ⟨v, mb, D, h⟩ k hf => ⟨v, mb, D, h.kept k hf⟩, fun ⟨v, mb, D, h⟩ hq => ⟨v, mb, D, h.weak hq⟩⟩
section
variable {P : Nat → Prop} {w : World} {gb : Nat} {b : Bk} {v : Value} {mb : Nat} {D : DataW Value}
theorem PBv.find_none (h : PBv P w gb b v mb D) {id : Int} (hid : In64 id) (ha : atL b.l id = none) : Calls Tryz.prog 47 #[.pointer (some ⟨gb, 0, none⟩), .int .i64 id] w fun e w' => e = .returned (.pointer none) ∧ w = w' := by
  have c0 : w.cell? ⟨gb, 3, none⟩ = some (.map (some mb)) := obj_cell h.obj rfl
  have hh := h.ix.has id hid
  rw [ha] at hh
  have hown := h.map
  have hkey := key_int hid
  replace hh : Maps.has D (.int .i64 id) = false := hh
  replace hid := Lib.hid hid
  replace hown := Lib.hid hown
  replace hkey := Lib.hid hkey
  clear h ha
  go_enter Tryz.func47, Tryz.ntmps47
  go_wp2_with (at_lookup; refine wpList_lookup_own_ok_int _ rfl _ _ 101 rfl 3 3 .i64 keyInt Tryz.underlying101 Tryz.underlying3 (zero3 _) mb _ D rfl hown.out _ _ rfl hkey.out ?_; intro c hat hwc)
  go_ret
  exact ⟨rfl, rfl⟩
theorem PBv.find_some (h : PBv P w gb b v mb D) {id : Int} {i : Nat} (hid : In64 id) (ha : atL b.l id = some i) {g : Nat} (hg : v.ownBlock = some g) (hlen : b.l.length ≤ 1000) : Calls Tryz.prog 47 #[.pointer (some ⟨gb, 0, none⟩), .int .i64 id] w fun e w' => e = .returned (.pointer (some ⟨g, i * 10, none⟩)) ∧ w = w' := by
  have c0 : w.cell? ⟨gb, 3, none⟩ = some (.map (some mb)) := obj_cell h.obj rfl
  have c1 : w.cell? ⟨gb, 2, none⟩ = some v := obj_cell h.obj rfl
  have hh := h.ix.has id hid
  rw [ha] at hh
  have hat0 := h.ix.at_ id i hid ha
  obtain ⟨hlt, -⟩ := atL_some ha
  obtain ⟨cap, cur, rfl, -⟩ := h.row_obj hg
  have hown := h.map
  have hkey := key_int hid
  replace hh : Maps.has D (.int .i64 id) = true := hh
  generalize b.l.length = n at *
  have hz0 : (0 : Int) ≤ (i : Int) := by omega
  have hz1 : (i : Int) < (n : Int) := by omega
  replace hid := Lib.hid hid
  replace hown := Lib.hid hown
  replace hkey := Lib.hid hkey
  replace hat0 := Lib.hid hat0
  clear h ha
  go_enter Tryz.func47, Tryz.ntmps47
  go_wp2_with (at_lookup; refine wpList_lookup_own_ok_int _ rfl _ _ 101 rfl 3 3 .i64 keyInt Tryz.underlying101 Tryz.underlying3 (zero3 _) mb _ D rfl hown.out _ _ rfl hkey.out ?_; intro c hat hwc; obtain rfl : c = (i : Int) := (by have := hat0.out.symm.trans hat; simpa using this.symm); clear hat hwc)
  go_ret
  exact ⟨rfl, rfl⟩
/-- an entry's cells -/
theorem PBv.cells (h : PBv P w gb b v mb D) {g i : Nat} (hg : v.ownBlock = some g) (hi : i < b.l.length) (j : Nat) (u : Value) (hj : j < 10) (hu : (b.l[i]).cs[j]? = some u) : w.cell? ⟨g, i * 10 + j, none⟩ = some u :=
  orow_cell h.row hg ((cellsE_at hi j hj).trans hu)
theorem PBv.put (h : PBv P w gb b v mb D) {g i : Nat} (hg : v.ownBlock = some g) (hi : i < b.l.length) (j : Nat) (u : Value) (e : En) (hj : j < 10) (he : (b.l[i]).cs.set j u = e.cs) (hid : e.d.id = (b.l[i]).d.id) : PBv P (w.setCell ⟨g, i * 10 + j, none⟩ u) gb { b with l := b.l.set i e } v mb D := by
  have hne : gb ≠ g := fun e => h.nv (e ▸ hg)
  have hnm : mb ≠ g := fun e => h.nm (e ▸ hg)
  refine ⟨(obj_other (a := ⟨g, i * 10 + j, none⟩) u hne).trans h.obj, ?_, own_block (by rw [List.length_set]; exact h.map) (obj_other (a := ⟨g, i * 10 + j, none⟩) u hnm), ⟨h.ix.isMap, fun id hi2 => ?_, fun id k hi2 hk => h.ix.at_ id k hi2 ?_⟩, h.pg, h.pm, h.pv⟩
  · have h2 := orow_set h.row hg (j := i * 10 + j) (by rw [cellsE_len]; omega) u
    rw [cellsE_set hi j u e hj he] at h2
    simpa using h2
  · rw [atL_set _ _ _ _ fun _ => hid]; exact h.ix.has id hi2
  · rw [← hk]; exact (atL_set _ _ _ _ fun _ => hid).symm
theorem PBv.more (h : PBv P w gb b v mb D) (n : Nat) : PBv P (w.setCell ⟨gb, 4, none⟩ (.int .i64 (n : Nat))) gb { b with many := n } v mb D := by
  refine ⟨obj_set h.obj 4 _, orow_kept h.row fun g hg => obj_other _ fun e => h.nv (by have e2 : g = gb := e; rw [← e2]; exact hg), own_block h.map (obj_other _ fun e => h.ng (by have := e; simpa using this.symm)), h.ix, h.pg, h.pm, h.pv⟩
theorem PBv.has (h : PBv P w gb b v mb D) {i : Nat} (hi : i < b.l.length) : ∃ g, v.ownBlock = some g := by
  obtain ⟨g, cap, cur, rfl, _⟩ := orow_some h.row (by omega)
  exact ⟨g, rfl⟩
theorem getD_at {l : List En} {i : Nat} (h : i < l.length) : l.getD i default = l[i] := by rw [List.getD_eq_getElem?_getD, List.getElem?_eq_getElem h]; rfl

end
end Go.Proofs.YthocnlalahknjaaGreat.Dd
namespace Go.Proofs.YthocnlalahknjaaGreat.Dd
open Go.RowKit Go.Maps
set_option linter.unusedVariables false
section
variable {P : Nat → Prop} {w : World} {gb : Nat} {b : Bk} {v : Value} {mb : Nat} {D : DataW Value}
set_option maxHeartbeats 1000000 in
set_option maxRecDepth 100000 in
theorem deal_any (h : PB P w gb b) {id : Int} (hid : In64 id) (hlen : b.l.length ≤ 1000) : Calls Tryz.prog 26 #[.pointer (some ⟨gb, 0, none⟩), .int .i64 id] w fun e w' => e = .returned (.tuple #[(b.deal id).1.val, .bool (b.deal id).2]) ∧ Below w.heap.size w w' := by
  obtain ⟨v, mb, D, h⟩ := h
  have h' : ∀ P, PBv P w gb b v mb D → PBv (fun j => P j ∨ w.heap.size ≤ j) (w.alloc (.cells #[.int .i64 0, .int .i64 0, .int .i64 0, .int .i64 0, .int .i64 0, .int .i64 0, .int .i64 0] 60)) gb b v mb D :=
    fun P h => (h.kept ((Kp.refl (fun _ => False) _).alloc _) (fun _ _ _ h => h)).weak fun j _ hj => .inl hj
  have h2 := h' P h
  rcases ha : atL b.l id with _ | i
  · have c := h2.find_none hid ha
    have e : b.deal id = (zeroD, false) := by unfold Bk.deal; rw [ha]
    rw [e]
    unfold Dl.val zeroD
    clear h h2 h' ha e
    go_enter Tryz.func26, Tryz.ntmps26
    go_wp2_with (go_at_call 47; (with_reducible refine c.mono ?_); rintro e w' ⟨rfl, rfl⟩)
    exact bodyPost_ret (v := .tuple #[.agg #[.int .i64 0, .int .i64 0, .int .i64 0, .int .i64 0, .int .i64 0, .int .i64 0, .int .i64 0], .bool false]) (by simp [results, Tryz.results26, go_sem]) rfl ⟨rfl, (Below.refl _ _).alloc (Nat.le_refl _) _⟩
  · obtain ⟨hlt, -⟩ := atL_some ha
    obtain ⟨g, hg⟩ := h.has hlt
    have c := h2.find_some hid ha hg hlen
    have c0 := h.cells hg hlt 0 _ (by omega) rfl
    have c1 := h.cells hg hlt 1 _ (by omega) rfl
    have c2 := h.cells hg hlt 2 _ (by omega) rfl
    have c3 := h.cells hg hlt 3 _ (by omega) rfl
    have c4 := h.cells hg hlt 4 _ (by omega) rfl
    have c5 := h.cells hg hlt 5 _ (by omega) rfl
    have c6 := h.cells hg hlt 6 _ (by omega) rfl
    have hgl := (World.ownsRow.lt h.row g hg).2
    have e : b.deal id = ((b.l[i]).d, true) := by unfold Bk.deal; rw [ha]; dsimp only; rw [getD_at hlt]
    rw [e]
    unfold Dl.val
    rw [Nat.add_zero] at c0
    clear h h2 h' ha e
    generalize b.l[i] = x at *
    go_enter Tryz.func26, Tryz.ntmps26
    go_wp2_with (go_at_call 47; (with_reducible refine c.mono ?_); rintro e w' ⟨rfl, rfl⟩)
    exact bodyPost_ret (v := .tuple #[.agg #[.int .i64 x.d.id, .int .i64 x.d.a, .int .i64 x.d.b, .int .i64 x.d.sc, .int .i64 x.d.bc, .int .i64 x.d.s, .int .i64 x.d.t], .bool true]) (by simp [results, Tryz.results26, go_sem]) rfl ⟨rfl, (Below.refl _ _).alloc (Nat.le_refl _) _⟩

theorem or01 : bits .or .i64 0 1 = 1 := by decide
theorem or02 : bits .or .i64 0 2 = 2 := by decide
theorem or12 : bits .or .i64 1 2 = 3 := by decide
theorem or21 : bits .or .i64 2 1 = 3 := by decide
end
end Go.Proofs.YthocnlalahknjaaGreat.Dd
namespace Go.Proofs.YthocnlalahknjaaGreat.Dd
open Go.RowKit Go.Maps
set_option linter.unusedVariables false
theorem bcellD {W w1 : World} (hb : Below W.heap.size W w1) : (∀ b o, b < W.heap.size → w1.cell? ⟨b, o, none⟩ = W.cell? ⟨b, o, none⟩) ∧ (∀ b o, b < W.heap.size → w1.frozen? ⟨b, o, none⟩ = W.frozen? ⟨b, o, none⟩) :=
  ⟨fun b o h => hb.cell (p := ⟨b, o, none⟩) h, fun b o h => hb.frozen (p := ⟨b, o, none⟩) h⟩
section
variable {P : Nat → Prop} {w : World} {gb : Nat} {b : Bk} {v : Value} {mb : Nat} {D : DataW Value}
theorem PBv.entry (h : PBv P w gb b v mb D) {i g : Nat} (hi : i < b.l.length) (hg : v.ownBlock = some g) : w.cell? ⟨g, i * 10, none⟩ = some (.int .i64 (b.l[i]).d.id) ∧ w.cell? ⟨g, i * 10 + 1, none⟩ = some (.int .i64 (b.l[i]).d.a) ∧ w.cell? ⟨g, i * 10 + 2, none⟩ = some (.int .i64 (b.l[i]).d.b) ∧ w.cell? ⟨g, i * 10 + 3, none⟩ = some (.int .i64 (b.l[i]).d.sc) ∧ w.cell? ⟨g, i * 10 + 4, none⟩ = some (.int .i64 (b.l[i]).d.bc) ∧ w.cell? ⟨g, i * 10 + 5, none⟩ = some (.int .i64 (b.l[i]).d.s) ∧ w.cell? ⟨g, i * 10 + 6, none⟩ = some (.int .i64 (b.l[i]).d.t) ∧ w.cell? ⟨g, i * 10 + 7, none⟩ = some (.int .i64 (b.l[i]).st) ∧ w.cell? ⟨g, i * 10 + 8, none⟩ = some (.int .i64 (b.l[i]).ask) ∧ w.cell? ⟨g, i * 10 + 9, none⟩ = some (.int .i64 (b.l[i]).nth) :=
  ⟨h.cells hg hi 0 _ (by omega) rfl, h.cells hg hi 1 _ (by omega) rfl, h.cells hg hi 2 _ (by omega) rfl, h.cells hg hi 3 _ (by omega) rfl, h.cells hg hi 4 _ (by omega) rfl, h.cells hg hi 5 _ (by omega) rfl, h.cells hg hi 6 _ (by omega) rfl, h.cells hg hi 7 _ (by omega) rfl, h.cells hg hi 8 _ (by omega) rfl, h.cells hg hi 9 _ (by omega) rfl⟩
theorem PBv.below (h : PBv P w gb b v mb D) {w' : World} (hb : Below w.heap.size w w') : PBv P w' gb b v mb D := h.kept (Kp.of_below (F := fun _ => False) hb) (fun _ _ _ h => h)
theorem and_side {x s : Int} (hx : x = 0 ∨ x = 1 ∨ x = 2 ∨ x = 3) (hs : s = 1 ∨ s = 2) : ((bits .and .i64 x s) != 0) = decide (x = s ∨ x = 3) := by
  rcases hx with rfl | rfl | rfl | rfl <;> rcases hs with rfl | rfl <;> decide
end
end Go.Proofs.YthocnlalahknjaaGreat.Dd
namespace Go.Proofs.YthocnlalahknjaaGreat.Dd
open Go.RowKit Go.Maps
set_option linter.unusedVariables false
section
variable {P : Nat → Prop} {w : World} {gb : Nat} {b : Bk} {v : Value} {mb : Nat} {D : DataW Value}
theorem IxD.app {D : DataW Value} {l : List En} (h : IxD D l) (x : En) (hid : In64 x.d.id) (hn : atL l x.d.id = none) : IxD (D.put (.int .i64 x.d.id) (.lit (.int .i64 (l.length : Nat)))) (l ++ [x]) := by
  refine ⟨h.isMap.put _ _, fun id hi => ?_, fun id i hi ha => ?_⟩
  · by_cases e : id = x.d.id
    · subst e
      rw [Maps.has_put_same h.isMap (keyInt.key (key_int hid)), atL_app, hn]; simp
    · rw [Maps.has_put_other (fun e2 => e (by injection e2)), h.has id hi, atL_app]
      rcases atL l id with _ | k
      · simp [Ne.symm e]
      · simp
  · rw [atL_app] at ha
    by_cases e : id = x.d.id
    · subst e
      rw [hn] at ha
      simp at ha
      subst ha
      rw [Maps.atKey_put_same h.isMap (keyInt.key (key_int hid))]
    · rw [Maps.atKey_put_other (fun e2 => e (by injection e2))]
      rcases hk : atL l id with _ | k
      · rw [hk] at ha; simp [Ne.symm e] at ha
      · rw [hk] at ha; simp at ha; subst ha; exact h.at_ id k hi hk
theorem PBv.boxed (h : PBv P w gb b v mb D) (x : En) : (w.alloc (.cells x.cs.toArray 110)).cell? ⟨w.heap.size, 0, none⟩ = some (.int .i64 x.d.id) ∧ (w.alloc (.cells x.cs.toArray 110)).cell? ⟨w.heap.size, 1, none⟩ = some (.int .i64 x.d.a) ∧ (w.alloc (.cells x.cs.toArray 110)).cell? ⟨w.heap.size, 2, none⟩ = some (.int .i64 x.d.b) ∧ (w.alloc (.cells x.cs.toArray 110)).cell? ⟨w.heap.size, 3, none⟩ = some (.int .i64 x.d.sc) ∧ (w.alloc (.cells x.cs.toArray 110)).cell? ⟨w.heap.size, 4, none⟩ = some (.int .i64 x.d.bc) ∧ (w.alloc (.cells x.cs.toArray 110)).cell? ⟨w.heap.size, 5, none⟩ = some (.int .i64 x.d.s) ∧ (w.alloc (.cells x.cs.toArray 110)).cell? ⟨w.heap.size, 6, none⟩ = some (.int .i64 x.d.t) ∧ (w.alloc (.cells x.cs.toArray 110)).cell? ⟨w.heap.size, 7, none⟩ = some (.int .i64 x.st) ∧ (w.alloc (.cells x.cs.toArray 110)).cell? ⟨w.heap.size, 8, none⟩ = some (.int .i64 x.ask) ∧ (w.alloc (.cells x.cs.toArray 110)).cell? ⟨w.heap.size, 9, none⟩ = some (.int .i64 x.nth) := by
  have hn := heap_alloc_new w (.cells x.cs.toArray 110)
  exact ⟨obj_cell hn rfl, obj_cell hn rfl, obj_cell hn rfl, obj_cell hn rfl, obj_cell hn rfl, obj_cell hn rfl, obj_cell hn rfl, obj_cell hn rfl, obj_cell hn rfl, obj_cell hn rfl⟩
/-- what add has to lay behind the map's turn -/
theorem PBv.added {w1 w2 : World} {p : Option Addr} {cap : Nat} (h : PBv P w1 gb b (.slice p b.l.length cap) mb D) (x : En) (hid : In64 x.d.id) (hn : atL b.l x.d.id = none) (hlen : b.l.length ≤ 1000) (hf : ∀ i, w1.heap.size ≤ i → P i)
    (hm : w2.ownsMap Tryz.prog 3 (plainElem Tryz.prog 3) mb (b.l.length + 1) (D.put (.int .i64 x.d.id) (.lit (.int .i64 (b.l.length : Nat))))) (hg : w1.grownBy w2 (some mb)) :
    Kp (fun j => j = mb) w1 w2 ∧ w2.heap[gb]? = w1.heap[gb]? ∧ ∃ v3 w3, (Builtin.append_ #[102, 102] 102 #[.slice p b.l.length cap, .slice (some ⟨w2.drew.heap.size, 0, none⟩) 1 1]).run Tryz.prog (w2.drew.alloc (.cells x.cs.toArray 110)) = .ok v3 w3 ∧
      w3.heap[gb]? = w1.heap[gb]? ∧ Kp P w1 w3 ∧ PBv P (w3.setCell ⟨gb, 2, none⟩ v3) gb { b with l := b.l ++ [x] } v3 mb (D.put (.int .i64 x.d.id) (.lit (.int .i64 (b.l.length : Nat)))) := by
  have hK : Kp (fun j => j = mb) w1 w2 := ((Kp.refl _ _).grown hg fun k hk => .inl (by injection hk with hk; exact hk.symm))
  have hgb : w2.heap[gb]? = w1.heap[gb]? := hK.block gb h.lt h.ng
  have hrow2 : (w2.drew.alloc (.cells x.cs.toArray 110)).ownsRow 0 110 10 (.slice p b.l.length cap) b.l.length (cellsE b.l) :=
    orow_kept (orow_kp h.row hK fun g hg e => h.nm (by rw [hg, e])) fun g hg => Below.heap_alloc _ _ _ (Nat.lt_of_lt_of_le (World.ownsRow.lt h.row g hg).2 hK.size)
  obtain ⟨v3, w3, hr, ho, hg3, hv3⟩ := app1_run 102 110 10 80 _ Tryz.underlying102 info65 (by rfl) (by omega) (by omega) (w2.drew.alloc (.cells x.cs.toArray 110)) _ _ _ hrow2 ⟨w2.drew.heap.size, 0, none⟩ x.cs rfl (fun j u hu => by
    have e : (⟨w2.drew.heap.size, 0, none⟩ : Addr).add j = ⟨w2.drew.heap.size, j, none⟩ := by unfold Addr.add; split <;> simp_all
    rw [e]; exact obj_cell (heap_alloc_new w2.drew _) (by simpa using hu)) x.cs_one (by omega)
  have hK3 : Kp P w1 w3 := (((hK.mono (G := P) fun j _ e => by rw [e]; exact h.pm).drew.alloc _).grown hg3 fun k hk => .inl (h.pv k hk))
  have hw3 : w3.heap[gb]? = w1.heap[gb]? := by
    have hl : gb < (w2.drew.alloc (.cells x.cs.toArray 110)).heap.size := by have h1 := h.lt; have h2 := hK.size; have h3 : w2.drew.heap.size = w2.heap.size := rfl; simp; omega
    rw [hg3.block gb hl fun e => h.nv e.symm, Below.heap_alloc w2.drew _ _ (Nat.lt_of_lt_of_le h.lt hK.size)]
    exact hgb
  have hmb : mb < w2.heap.size := hm.lt
  have hmap3 : w3.heap[mb]? = w2.heap[mb]? := by
    rw [hg3.block mb (by simp; exact Nat.lt_succ_of_lt hmb) fun e => h.nm e.symm, Below.heap_alloc w2.drew _ _ hmb]; rfl
  have hobj3 := hw3.trans h.obj
  have hnew : ∀ g, v3.ownBlock = some g → g ≠ gb ∧ g ≠ mb ∧ P g := fun g hg => by
    rcases hv3 g hg with h4 | h4
    · exact ⟨fun e => h.nv (by rw [h4, e]), fun e => h.nm (by rw [h4, e]), h.pv g h4⟩
    · have h5 := h.lt
      have h6 := hK.size
      have h7 : w2.drew.heap.size = w2.heap.size := rfl
      simp at h4
      exact ⟨by omega, by omega, hf g (by omega)⟩
  refine ⟨hK, hgb, v3, w3, hr, hw3, hK3, ?_⟩
  refine ⟨obj_set hobj3 2 _, ?_, own_block (own_block (by rw [List.length_append]; exact hm) hmap3) (obj_other _ fun e => h.ng (by have e2 : mb = gb := e; exact e2.symm)), h.ix.app x hid hn, h.pg, h.pm, fun g hg => (hnew g hg).2.2⟩
  rw [cellsE_app, List.length_append]
  exact orow_kept ho fun g hg => obj_other _ (hnew g hg).1
set_option maxHeartbeats 2000000 in
set_option maxRecDepth 100000 in
theorem add_any (h : PB P w gb b) (x : En) (hid : In64 x.d.id) (hn : atL b.l x.d.id = none) (hlen : b.l.length ≤ 1000) (hf : ∀ i, w.heap.size ≤ i → P i) :
    Calls Tryz.prog 75 #[.pointer (some ⟨gb, 0, none⟩), x.val] w fun e w' => e = .returned (.tuple #[]) ∧ PB P w' gb { b with l := b.l ++ [x] } ∧ Kp P w w' := by
  obtain ⟨v, mb, D, h⟩ := h
  have hb1 : Below w.heap.size w (w.alloc (.cells x.cs.toArray 110)) := (Below.refl _ _).alloc (Nat.le_refl _) _
  have h1 := h.below hb1
  obtain ⟨p, cap, rfl, -, -, -⟩ := orow_shape h.row
  have c2 : (w.alloc (.cells x.cs.toArray 110)).cell? ⟨gb, 2, none⟩ = some (.slice p b.l.length cap) := obj_cell h1.obj rfl
  have c3 : (w.alloc (.cells x.cs.toArray 110)).cell? ⟨gb, 3, none⟩ = some (.map (some mb)) := obj_cell h1.obj rfl
  obtain ⟨x0, x1, x2, x3, x4, x5, x6, x7, x8, x9⟩ := h.boxed x
  have hgl := h.lt
  have hown : Hid ((w.alloc (.cells x.cs.toArray 110)).drew.ownsMap Tryz.prog 3 (plainElem Tryz.prog 3) mb b.l.length D) := Lib.hid h1.map
  have hkey := key_int hid
  have hval : plainElem (H := Value) Tryz.prog 3 (.int .i64 (b.l.length : Nat)) = some (.lit (.int .i64 (b.l.length : Nat)), []) := plainElem_int Tryz.underlying3 (WalkArith.wf_i64 (by omega))
  have hnm : b.l.length < maxLen := by unfold maxLen; omega
  have hadd := fun w2 => h1.added (w2 := w2) x hid hn hlen fun i hi => hf i (by have := hb1.size; omega)
  have hnew := heap_alloc_new w (.cells x.cs.toArray 110)
  have hsz : (w.alloc (.cells x.cs.toArray 110)).heap.size = w.heap.size + 1 := by simp
  have hmw : mb ≠ w.heap.size := by have := h.map.lt; omega
  have hgbw : gb ≠ mb := h.ng
  replace h := Lib.hid h
  replace h1 := Lib.hid h1
  replace hkey := Lib.hid hkey
  replace hval := Lib.hid hval
  replace hb1 := Lib.hid hb1
  replace hadd := Lib.hid hadd
  replace hnew := Lib.hid hnew
  replace hsz := Lib.hid hsz
  unfold En.val
  unfold En.cs at *
  go_enter Tryz.func75, Tryz.ntmps75
  go_wp2_with fail
  generalize w.alloc _ = w1 at *
  go_still_tail 12, (by kernel_rfl)
  change wpList _ _ _ _ _ (World.drew _)
  refine wpList_mapUpdate_own _ rfl _ _ _ 101 rfl 3 3 keyInt Tryz.underlying101 _ mb _ D rfl hown.out hnm _ _ (.int .i64 x.d.id) rfl rfl hkey.out (.lit (.int .i64 (b.l.length : Nat))) [] hval.out ?_
  intro w2 hm2 hg2
  obtain ⟨hK2, hgb2, v3, w3, hr3, hw3, hK3, hfin⟩ := hadd.out w2 hm2 ⟨hg2.os, hg2.tape, hg2.output, hg2.size, hg2.block⟩
  have hwx : ¬ w.heap.size = mb := fun e => hmw e.symm
  have hgl1 : gb < w2.heap.size := Nat.lt_of_lt_of_le h1.out.lt hK2.size
  have hxl1 : w.heap.size < w2.heap.size := Nat.lt_of_lt_of_le (by have := hsz.out; omega) hK2.size
  replace c2 := hK2.cell c2 hgbw
  replace x0 := hK2.cell x0 hwx
  replace x1 := hK2.cell x1 hwx
  replace x2 := hK2.cell x2 hwx
  replace x3 := hK2.cell x3 hwx
  replace x4 := hK2.cell x4 hwx
  replace x5 := hK2.cell x5 hwx
  replace x6 := hK2.cell x6 hwx
  replace x7 := hK2.cell x7 hwx
  replace x8 := hK2.cell x8 hwx
  replace x9 := hK2.cell x9 hwx
  have hob3 := hw3.trans h1.out.obj
  have c6 : w3.cell? ⟨gb, 2, none⟩ = some (.slice p b.l.length cap) := obj_cell hob3 rfl
  have z6 := obj_free hob3 2
  have c2a : ∀ o, (w2.drew.alloc o).cell? ⟨gb, 2, none⟩ = some (.slice p b.l.length cap) := fun o => by rw [World.cell?_alloc_lt _ _ _ (by exact hgl1)]; exact c2
  have hfin2 : PB P (w3.setCell ⟨gb, 2, none⟩ v3) gb { b with l := b.l ++ [x] } ∧ Kp P w (w3.setCell ⟨gb, 2, none⟩ v3) :=
    ⟨⟨_, _, _, hfin⟩, ((Kp.of_below (F := P) hb1.out).trans hK3).setCell (.inl h1.out.pg) _⟩
  obtain ⟨p3, cap3, hv3, -, -, -⟩ := orow_shape hfin.row
  clear hfin
  have hv3' : ∃ n3, v3 = .slice p3 n3 cap3 := ⟨_, hv3⟩
  clear hv3
  obtain ⟨n3, rfl⟩ := hv3'
  replace hfin2 := Lib.hid hfin2
  replace hr3 := Lib.hid hr3
  clear hw3 hK3 hK2 hgb2 hm2 hg2 hadd hob3 c3 hown
  go_wp2_with fail
  go_region_law (first | (refine step_app rfl _ _ _ _ rfl _ _ _ _ rfl rfl hr3.out ?_))
  all_goals
    go_wp2_with fail
    go_end0
    exact ⟨rfl, hfin2.out⟩

theorem below_pb (h : PB P w gb b) {w' : World} (hb : Below w.heap.size w w') : PB P w' gb b := by
  obtain ⟨v, mb, D, h⟩ := h; exact ⟨v, mb, D, h.below hb⟩
set_option maxHeartbeats 2000000 in
set_option maxRecDepth 100000 in
theorem learn_any (h : PB P w gb b) (d : Dl) (hid : In64 d.id) (hn : atL b.l d.id = none) (hlen : b.l.length ≤ 200) (hf : ∀ i, w.heap.size ≤ i → P i) :
    Calls Tryz.prog 48 #[.pointer (some ⟨gb, 0, none⟩), d.val] w fun e w' =>
      e = .returned (.int .i64 (if 200 ≤ b.l.length then 4 else 0)) ∧ PB P w' gb (if 200 ≤ b.l.length then b else { b with l := b.l ++ [⟨d, 1, 0, 0⟩] }) ∧ Kp P w w' := by
  have hb1 : ∀ o, Below w.heap.size w (w.alloc o) := fun o => (Below.refl _ _).alloc (Nat.le_refl _) _
  have h1 := fun o => below_pb h (hb1 o)
  have hadd := fun o => add_any (h1 o) ⟨d, 1, 0, 0⟩ hid hn (by omega) fun i hi => hf i (by have := (hb1 o).size; omega)
  unfold En.val at hadd
  obtain ⟨v, mb, D, h⟩ := h
  obtain ⟨p, cap, rfl, -, -, -⟩ := orow_shape h.row
  have c2 : w.cell? ⟨gb, 2, none⟩ = some (.slice p b.l.length cap) := obj_cell h.obj rfl
  have hgl := h.lt
  replace h1 := Lib.hid h1
  replace hb1 := Lib.hid hb1
  replace hadd := Lib.hid hadd
  clear h
  unfold Dl.val
  by_cases h2 : 200 ≤ b.l.length
  · rw [if_pos h2, if_pos h2]
    have q : (200 : Int) ≤ (b.l.length : Int) := by omega
    clear h2 hlen
    go_enter Tryz.func48, Tryz.ntmps48
    go_wp2_with fail
    go_ret
    exact ⟨rfl, h1.out _, Kp.of_below (hb1.out _)⟩
  · rw [if_neg h2, if_neg h2]
    have q : ¬ (200 : Int) ≤ (b.l.length : Int) := by omega
    clear h2 hlen
    go_enter Tryz.func48, Tryz.ntmps48
    go_wp2_with (go_at_call 75; (with_reducible refine (hadd.out _).mono ?_); rintro e w1 ⟨rfl, hP, hK⟩)
    go_ret
    exact ⟨rfl, hP, (Kp.of_below (hb1.out _)).trans hK⟩
end
end Go.Proofs.YthocnlalahknjaaGreat.Dd
namespace Go.Proofs.YthocnlalahknjaaGreat.Dd
open Go.RowKit
set_option linter.unusedVariables false

/-- the operations that stand ahead of number i in every order -/
def deps (md : Region.Mode) (ops : Array Oper) (i : Nat) : List Nat := ((ops[i]?).map fun o => (o.after.toList.filter (Region.binds md)).map (·.on)).getD []
theorem ready_mem {md : Region.Mode} {ops : Array Oper} {listed : Array Bool} {i : Nat} : i ∈ Region.ready md ops listed ↔ i < ops.size ∧ listed.getD i true = false ∧ ∀ j ∈ deps md ops i, listed.getD j false = true := by
  unfold Region.ready deps
  rw [List.mem_filter, List.mem_range]
  constructor
  · rintro ⟨h1, h2⟩
    rw [Bool.and_eq_true] at h2
    obtain ⟨h2, h3⟩ := h2
    refine ⟨h1, by simpa using h2, fun j hj => ?_⟩
    rw [Array.getElem?_eq_getElem h1] at h3 hj
    simp only [Option.map_some, Option.getD_some] at h3 hj
    obtain ⟨e, he, rfl⟩ := List.mem_map.1 hj
    obtain ⟨he1, he2⟩ := List.mem_filter.1 he
    rw [Array.all_eq_true'] at h3
    have := h3 e (by simpa using he1)
    rw [he2] at this
    simpa using this
  · rintro ⟨h1, h2, h3⟩
    refine ⟨h1, ?_⟩
    rw [Array.getElem?_eq_getElem h1] at h3 ⊢
    simp only [Option.map_some, Option.getD_some] at h3 ⊢
    rw [h2]
    simp only [Bool.not_false, Bool.true_and]
    rw [Array.all_eq_true']
    intro e he
    cases hb : Region.binds md e with
    | false => rfl
    | true =>
      have := h3 e.on (List.mem_map.2 ⟨e, List.mem_filter.2 ⟨by simpa using he, hb⟩, rfl⟩)
      simpa using this
/-- how many of the first n are not listed -/
def lft (listed : Array Bool) : Nat → Nat
  | 0 => 0
  | n + 1 => lft listed n + (if listed.getD n true = false then 1 else 0)
theorem lft_le (listed : Array Bool) : ∀ n, lft listed n ≤ n
  | 0 => Nat.le_refl _
  | n + 1 => by unfold lft; have := lft_le listed n; split <;> omega
theorem set_true {listed : Array Bool} {i j : Nat} : (listed.setIfInBounds i true).getD j true = if j = i then true else listed.getD j true := by
  simp only [Array.getD_eq_getD_getElem?, Array.getElem?_setIfInBounds]
  split
  · rename_i h; subst h; split <;> simp_all
  · rename_i h; rw [if_neg (Ne.symm h)]
theorem set_false {listed : Array Bool} {i j : Nat} (h : (listed.setIfInBounds i true).getD j false = true) : listed.getD j false = true ∨ j = i := by
  simp only [Array.getD_eq_getD_getElem?, Array.getElem?_setIfInBounds] at h ⊢
  split at h
  · rename_i e; exact .inr e.symm
  · exact .inl h
theorem lft_set {listed : Array Bool} {i : Nat} (h : listed.getD i true = false) : ∀ n, lft (listed.setIfInBounds i true) n + (if i < n then 1 else 0) = lft listed n
  | 0 => rfl
  | n + 1 => by
    have := lft_set h n
    unfold lft
    rw [set_true]
    by_cases e : n = i
    · subst e
      rw [if_pos rfl, if_pos (by omega : n < n + 1), if_pos h]
      rw [if_neg (by omega : ¬ n < n)] at this
      simp; omega
    · rw [if_neg e]
      by_cases e2 : i < n
      · rw [if_pos (by omega : i < n + 1)]
        rw [if_pos e2] at this
        omega
      · rw [if_neg (by omega : ¬ i < n + 1)]
        rw [if_neg e2] at this
        omega
theorem lft_pos {listed : Array Bool} {i n : Nat} (h : listed.getD i true = false) (hi : i < n) : 0 < lft listed n := by
  have := lft_set h n
  rw [if_pos hi] at this
  omega
theorem all_listed {md : Region.Mode} {ops : Array Oper} {listed : Array Bool} (hs : listed.size = ops.size) (hd : ((List.range ops.size).all fun i => (deps md ops i).all (· < i)) = true) (hr : Region.ready md ops listed = []) :
    ∀ i, i < ops.size → listed.getD i false = true := by
  intro i
  induction i using Nat.strongRecOn with
  | _ i ih =>
    intro hi
    cases h : listed.getD i false with
    | true => rfl
    | false =>
      exfalso
      have h2 : listed.getD i true = false := by
        simp only [Array.getD_eq_getD_getElem?, Array.getElem?_eq_getElem (show i < listed.size by omega), Option.getD_some] at h ⊢
        exact h
      have : i ∈ Region.ready md ops listed := ready_mem.2 ⟨hi, h2, fun j hj => by
        have hdi := List.all_eq_true.1 (List.all_eq_true.1 hd i (List.mem_range.2 hi)) j hj
        have hji : j < i := by simpa using hdi
        exact ih j hji (by omega)⟩
      rw [hr] at this
      cases this
/-- one more is listed -/
def add (L : Nat → Bool) (i : Nat) : Nat → Bool := fun j => L j || decide (j = i)
theorem add_iff {L : Nat → Bool} {i j : Nat} : add L i j = true ↔ L j = true ∨ j = i := by unfold add; simp
theorem set_add {listed : Array Bool} {i : Nat} (hi : i < listed.size) : (fun j => (listed.setIfInBounds i true).getD j false) = add (fun j => listed.getD j false) i := by
  funext j
  unfold add
  simp only [Array.getD_eq_getD_getElem?, Array.getElem?_setIfInBounds]
  by_cases e : i = j
  · subst e; simp [hi]
  · rw [if_neg e]; simp [Ne.symm e]
theorem wpAny_keeps {P : Program} {md : Region.Mode} {ops : Array Oper} {Q : Exit → Act → World → Prop} (I : (Nat → Bool) → Act → World → Prop)
    (hd : ((List.range ops.size).all fun i => (deps md ops i).all (· < i)) = true)
    (hstep : ∀ L a w i, i < ops.size → L i = false → I L a w → (∀ j ∈ deps md ops i, L j = true) → wpOp P ops Q i (fun a' w' => I (add L i) a' w') a w)
    (hend : ∀ L a w, I L a w → (∀ i, i < ops.size → L i = true) → Q .normal a w) :
    ∀ fuel listed a w, listed.size = ops.size → lft listed ops.size ≤ fuel → I (fun j => listed.getD j false) a w → wpAny P md ops Q fuel listed a w := by
  intro fuel
  induction fuel with
  | zero =>
    intro listed a w hs hf hI
    have hr : Region.ready md ops listed = [] := by
      cases h : Region.ready md ops listed with
      | nil => rfl
      | cons i r =>
        obtain ⟨h1, h2, _⟩ := ready_mem.1 (show i ∈ Region.ready md ops listed by rw [h]; exact List.mem_cons_self ..)
        have := lft_pos h2 h1
        omega
    exact ⟨hr, hend _ _ _ hI (all_listed hs hd hr)⟩
  | succ fuel ih =>
    intro listed a w hs hf hI
    refine ⟨fun hr => hend _ _ _ hI (all_listed hs hd hr), fun i hi => ?_⟩
    obtain ⟨h1, h2, h3⟩ := ready_mem.1 hi
    refine wpOp_mono (fun a' w' h => ?_) (hstep _ a w i h1 (by
      simp only [Array.getD_eq_getD_getElem?, Array.getElem?_eq_getElem (show i < listed.size by omega), Option.getD_some] at h2 ⊢
      exact h2) hI h3)
    refine ih _ a' w' (by simpa using hs) ?_ (by rw [set_add (by omega)]; exact h)
    have := lft_set h2 ops.size
    rw [if_pos h1] at this
    omega
theorem wp_region_keeps {P : Program} {id : Nat} {ops : Array Oper} {Q : Exit → Act → World → Prop} {a : Act} {w : World} (hm : P.follows .mixedOrders = true) (I : (Nat → Bool) → Act → World → Prop)
    (hd : ((List.range ops.size).all fun i => (deps .any ops i).all (· < i)) = true)
    (hbeg : I (fun _ => false) a w.drew)
    (hstep : ∀ L a w i, i < ops.size → L i = false → I L a w → (∀ j ∈ deps .any ops i, L j = true) → wpOp P ops Q i (fun a' w' => I (add L i) a' w') a w)
    (hend : ∀ L a w, I L a w → (∀ i, i < ops.size → L i = true) → Q .normal a w) : (Code.region id ops true).wp P Q a w := by
  refine wp_region_any hm ?_
  refine wpAny_keeps I hd hstep hend _ _ _ _ (by simp) (lft_le _ _) ?_
  have e : (fun j => (Array.replicate ops.size false).getD j false) = fun _ => false := by
    funext j
    simp [Array.getElem?_replicate]
    split <;> simp
  rw [e]
  exact hbeg

theorem add_ne {L : Nat → Bool} {n j : Nat} (h : add L n j = true) (hj : j ≠ n) : L j = true := (add_iff.1 h).resolve_right hj
theorem add_old {L : Nat → Bool} {n j : Nat} (h : L j = true) : add L n j = true := add_iff.2 (.inl h)
/-- what every order keeps, and each operation's forerunners are listed -/
theorem wp_region_closed {P : Program} {id : Nat} {ops : Array Oper} {Q : Exit → Act → World → Prop} {a : Act} {w : World} (hm : P.follows .mixedOrders = true) (I : (Nat → Bool) → Act → World → Prop)
    (hd : ((List.range ops.size).all fun i => (deps .any ops i).all (· < i)) = true)
    (hbeg : I (fun _ => false) a w.drew)
    (hstep : ∀ L a w i, i < ops.size → L i = false → I L a w → (∀ j ∈ deps .any ops i, L j = true) → (∀ i, L i = true → ∀ j ∈ deps .any ops i, L j = true) → wpOp P ops Q i (fun a' w' => I (add L i) a' w') a w)
    (hend : ∀ L a w, I L a w → (∀ i, i < ops.size → L i = true) → Q .normal a w) : (Code.region id ops true).wp P Q a w := by
  refine wp_region_keeps hm (fun L a w => (∀ i, L i = true → ∀ j ∈ deps .any ops i, L j = true) ∧ I L a w) hd ⟨nofun, hbeg⟩ (fun L a w i h1 h2 h3 h4 => ?_) (fun L a w h => hend L a w h.2)
  refine wpOp_mono (fun a' w' h => ⟨fun k hk j hj => ?_, h⟩) (hstep L a w i h1 h2 h3.2 h4 h3.1)
  rcases add_iff.1 hk with hk | rfl
  · exact add_old (h3.1 k hk j hj)
  · exact add_old (h4 j hj)
end Go.Proofs.YthocnlalahknjaaGreat.Dd
