/- Rows that grow by append: where they lie, and what they hold. -/
import Derived.Test.YtljclgphgojphaaR1
namespace Go.Proofs.Ytljclgphgojphaa
open Go.RowKit
set_option linter.unusedVariables false

/-- Each answer of the tree is such. -/
def Leaf {α : Type} (Q : α → Prop) : Sem α → Prop
  | .pure a => Q a
  | .load _ _ k => ∀ v, Leaf Q (k v)
  | .store _ _ _ k => Leaf Q k
  | .new _ k => ∀ n, Leaf Q (k n)
  | .shape _ k => ∀ s, Leaf Q (k s)
  | .freeze _ _ k => Leaf Q k
  | .frozen _ k => ∀ b, Leaf Q (k b)
  | .getObj _ k => ∀ o, Leaf Q (k o)
  | .setObj _ _ k => Leaf Q k
  | .choose _ k => ∀ n, Leaf Q (k n)
  | .sys _ k => ∀ r, Leaf Q (k r)
  | .program k => ∀ p, Leaf Q (k p)
  | .mark _ k => Leaf Q k
  | .halt _ => True

theorem Leaf.bind {α β : Type} {Q : β → Prop} (s : Sem α) {f : α → Sem β} (hf : ∀ a, Leaf Q (f a)) : Leaf Q (s >>= f) := by
  show Leaf Q (s.bind f)
  induction s with
  | pure a => exact hf a
  | load m a k ih => intro v; exact ih v
  | store m a v k ih => exact ih
  | new o k ih => intro n; exact ih n
  | shape r k ih => intro n; exact ih n
  | freeze a n k ih => exact ih
  | frozen a k ih => intro n; exact ih n
  | getObj r k ih => intro n; exact ih n
  | setObj r o k ih => exact ih
  | choose r k ih => intro n; exact ih n
  | sys c k ih => intro n; exact ih n
  | program k ih => intro n; exact ih n
  | mark m k ih => exact ih
  | halt h => trivial

theorem Leaf.run {α : Type} {Q : α → Prop} {p : Program} {s : Sem α} (h : Leaf Q s) : ∀ {w a w'}, s.run p w = .ok a w' → Q a := by
  induction s with
  | pure a => intro w b w' e; cases e; exact h
  | load m a k ih =>
    intro w b w' e
    simp only [Sem.run] at e
    split at e
    · exact ih _ (h _) e
    · split at e
      · exact ih _ (h _) e
      · cases e
  | store m a v k ih =>
    intro w b w' e
    cases v <;> simp only [Sem.run] at e <;> first | cases e | skip
    all_goals
      split at e
      · split at e
        · cases e
        · exact ih h e
      · split at e
        · exact ih h e
        · cases e
  | new o k ih => intro w b w' e; exact ih _ (h _) e
  | shape r k ih => intro w b w' e; exact ih _ (h _) e
  | freeze a n k ih => intro w b w' e; exact ih h e
  | frozen a k ih => intro w b w' e; exact ih _ (h _) e
  | getObj r k ih =>
    intro w b w' e
    simp only [Sem.run] at e
    split at e
    · cases e
    · exact ih _ (h _) e
    · cases e
  | setObj r o k ih =>
    intro w b w' e
    simp only [Sem.run] at e
    split at e
    · cases e
    · exact ih h e
    · cases e
  | choose q k ih =>
    intro w b w' e
    simp only [Sem.run] at e
    split at e
    · exact ih _ (h _) e
    · exact ih _ (h _) e
  | sys c k ih => intro w b w' e; exact ih _ (h _) e
  | program k ih => intro w b w' e; exact ih _ (h _) e
  | mark m k ih => intro w b w' e; exact ih h e
  | halt e => intro w b w' e'; cases e'

/-- each answer of the tree is such, where a block that is made before anything is written is numbered from S on -/
def Leaf2 (S : Nat) {α : Type} (Q : α → Prop) : Sem α → Prop
  | .pure a => Q a
  | .load _ _ k => ∀ v, Leaf2 S Q (k v)
  | .store _ _ _ k => Leaf Q k
  | .new _ k => ∀ n, S ≤ n → Leaf Q (k n)
  | .shape _ k => ∀ s, Leaf2 S Q (k s)
  | .freeze _ _ k => Leaf Q k
  | .frozen _ k => ∀ b, Leaf2 S Q (k b)
  | .getObj _ k => ∀ o, Leaf2 S Q (k o)
  | .setObj _ _ k => Leaf Q k
  | .choose _ k => ∀ n, Leaf2 S Q (k n)
  | .sys _ k => ∀ r, Leaf Q (k r)
  | .program k => ∀ p, Leaf2 S Q (k p)
  | .mark _ k => Leaf2 S Q k
  | .halt _ => True

/-- a tree that writes and makes nothing -/
def Calm {α : Type} : Sem α → Prop
  | .pure _ => True
  | .load _ _ k => ∀ v, Calm (k v)
  | .shape _ k => ∀ s, Calm (k s)
  | .frozen _ k => ∀ b, Calm (k b)
  | .getObj _ k => ∀ o, Calm (k o)
  | .choose _ k => ∀ n, Calm (k n)
  | .program k => ∀ p, Calm (k p)
  | .mark _ k => Calm k
  | .halt _ => True
  | _ => False

theorem Leaf2.bind {S : Nat} {α β : Type} {Q : β → Prop} {s : Sem α} (hs : Calm s) {f : α → Sem β} (hf : ∀ a, Leaf2 S Q (f a)) : Leaf2 S Q (s >>= f) := by
  show Leaf2 S Q (s.bind f)
  induction s with
  | pure a => exact hf a
  | load m a k ih => intro v; exact ih v (hs v)
  | store m a v k ih => exact hs.elim
  | new o k ih => exact hs.elim
  | shape r k ih => intro n; exact ih n (hs n)
  | freeze a n k ih => exact hs.elim
  | frozen a k ih => intro n; exact ih n (hs n)
  | getObj r k ih => intro n; exact ih n (hs n)
  | setObj r o k ih => exact hs.elim
  | choose r k ih => intro n; exact ih n (hs n)
  | sys c k ih => exact hs.elim
  | program k ih => intro n; exact ih n (hs n)
  | mark m k ih => exact ih hs
  | halt h => trivial

theorem Calm.bind {α β : Type} {s : Sem α} (hs : Calm s) {f : α → Sem β} (hf : ∀ a, Calm (f a)) : Calm (s >>= f) := by
  show Calm (s.bind f)
  induction s with
  | pure a => exact hf a
  | load m a k ih => intro v; exact ih v (hs v)
  | store m a v k ih => exact hs.elim
  | new o k ih => exact hs.elim
  | shape r k ih => intro n; exact ih n (hs n)
  | freeze a n k ih => exact hs.elim
  | frozen a k ih => intro n; exact ih n (hs n)
  | getObj r k ih => intro n; exact ih n (hs n)
  | setObj r o k ih => exact hs.elim
  | choose r k ih => intro n; exact ih n (hs n)
  | sys c k ih => exact hs.elim
  | program k ih => intro n; exact ih n (hs n)
  | mark m k ih => exact ih hs
  | halt h => trivial

theorem Leaf2.of {S : Nat} {α : Type} {Q : α → Prop} {s : Sem α} (h : Leaf Q s) : Leaf2 S Q s := by
  induction s with
  | pure a => exact h
  | load m a k ih => intro v; exact ih v (h v)
  | store m a v k ih => exact h
  | new o k ih => intro n _; exact h n
  | shape r k ih => intro n; exact ih n (h n)
  | freeze a n k ih => exact h
  | frozen a k ih => intro n; exact ih n (h n)
  | getObj r k ih => intro n; exact ih n (h n)
  | setObj r o k ih => exact h
  | choose r k ih => intro n; exact ih n (h n)
  | sys c k ih => exact h
  | program k ih => intro n; exact ih n (h n)
  | mark m k ih => exact ih h
  | halt h => trivial

theorem Leaf2.run {S : Nat} {α : Type} {Q : α → Prop} {p : Program} {s : Sem α} (h : Leaf2 S Q s) : ∀ {w a w'}, S ≤ w.heap.size → s.run p w = .ok a w' → Q a := by
  induction s with
  | pure a => intro w b w' _ e; cases e; exact h
  | load m a k ih =>
    intro w b w' hS e
    simp only [Sem.run] at e
    split at e
    · exact ih _ (h _) hS e
    · split at e
      · exact ih _ (h _) hS e
      · cases e
  | store m a v k ih =>
    intro w b w' hS e
    cases v <;> simp only [Sem.run] at e <;> first | cases e | skip
    all_goals
      split at e
      · split at e
        · cases e
        · exact Leaf.run h e
      · split at e
        · exact Leaf.run h e
        · cases e
  | new o k ih => intro w b w' hS e; exact Leaf.run (h w.heap.size hS) e
  | shape r k ih => intro w b w' hS e; exact ih _ (h _) hS e
  | freeze a n k ih => intro w b w' hS e; exact Leaf.run h e
  | frozen a k ih => intro w b w' hS e; exact ih _ (h _) hS e
  | getObj r k ih =>
    intro w b w' hS e
    simp only [Sem.run] at e
    split at e
    · cases e
    · exact ih _ (h _) hS e
    · cases e
  | setObj r o k ih =>
    intro w b w' hS e
    simp only [Sem.run] at e
    split at e
    · cases e
    · exact Leaf.run h e
    · cases e
  | choose q k ih =>
    intro w b w' hS e
    simp only [Sem.run] at e
    split at e
    · exact ih _ (h _) hS e
    · exact ih _ (h _) (w := { w with drawn := w.drawn + 1 }) hS e
  | sys c k ih => intro w b w' hS e; exact Leaf.run (h _) e
  | program k ih => intro w b w' hS e; exact ih _ (h _) hS e
  | mark m k ih => intro w b w' hS e; exact ih h hS e
  | halt e => intro w b w' hS e'; cases e'

theorem calm_underlying (t : TypeId) : Calm (underlying t) := fun p => by
  show Calm (match p.underlying t with | some d => pure d | none => stuck "no such type")
  split <;> trivial
theorem calm_typeInfo (t : TypeId) : Calm (typeInfo t) := fun p => by
  show Calm (match p.info? t with | some i => pure i | none => stuck "no such type")
  split <;> trivial
theorem calm_sizeOf (t : TypeId) : Calm (Go.sizeOf t) := (calm_typeInfo t).bind fun _ => trivial
theorem calm_zeroValue (t : TypeId) : Calm (zeroValue t) := (calm_typeInfo t).bind fun _ => by split <;> trivial
theorem calm_loadCellsFrom (a : Addr) : ∀ n i acc, Calm (loadCellsFrom a i n acc) := by
  intro n
  induction n with
  | zero => intro i acc; trivial
  | succ n ih => intro i acc; exact fun v => ih _ _
theorem calm_firstCells (size n : Nat) (v : Value) : Calm (Builtin.firstCells size n v) := by
  unfold Builtin.firstCells
  split <;> first | trivial | exact calm_loadCellsFrom _ _ _ _
theorem calm_frozen (a : Addr) : Calm (frozen a) := fun _ => trivial
theorem calm_mayShare (size sLen n : Nat) (base : Option Addr) (x : Value) : Calm (Builtin.mayShare size sLen n base x) := by
  have hc : ∀ (a : Addr) (k : Nat), Calm (Builtin.holdsCells a k) := fun a k s => by
    show Calm (match s with | some (_, n) => pure (a.spot.isNone && a.off + k ≤ n) | none => pure false)
    split <;> trivial
  unfold Builtin.mayShare
  have J : ∀ there : Bool, Calm (do
      if !there then return true
      match x with
      | .slice (some b) _ _ => do pure (!(← Builtin.holdsCells b (n * size)) || base.any (·.block == b.block))
      | _ => pure false) := by
    intro there
    split
    · trivial
    · split
      · exact (hc _ _).bind fun _ => trivial
      · trivial
  cases base with
  | none => exact J true
  | some a => exact (hc _ _).bind fun _ => (calm_frozen _).bind fun _ => J _

theorem calm_runtimePanic {α : Type} (m : String) : Calm (runtimePanic (.error m) : Sem α) := fun _ => trivial
theorem calm_asInt (v : Value) : Calm (asInt v) := Calm.bind (by unfold asIntOf; split <;> trivial) fun _ => trivial
theorem calm_askRoom (n : Nat) : Calm (askRoom n) := by unfold askRoom; split <;> trivial
theorem calm_lenOf (v : Value) : Calm (Builtin.lenOf v) := by unfold Builtin.lenOf; split <;> trivial

/-- append's answer lies where the row lay, or in a new block -/
def Lies (S : Nat) (v v' : Value) : Prop := v'.ownBlock = v.ownBlock ∨ ∃ g, S ≤ g ∧ v'.ownBlock = some g

theorem new_leaf (S : Nat) (v : Value) (elem : TypeId) (cs : Array Value) (n c : Nat) : Leaf2 S (Lies S v) (do pure (Value.slice (some (← newRow elem cs)) n c) : Sem Value) := fun g hg => Or.inr ⟨g, hg, rfl⟩

theorem calm_mark (m : Mark) : Calm (mark m) := trivial
theorem calm_unsupported {α : Type} (u : Unsupported) : Calm (unsupported u : Sem α) := trivial
theorem calm_choose (q : Question) : Calm (choose q) := fun _ => trivial
theorem calm_pure {α : Type} (a : α) : Calm (pure a : Sem α) := trivial
theorem calm_ite {α : Type} {c : Prop} [Decidable c] {s t : Sem α} (hs : Calm s) (ht : Calm t) : Calm (if c then s else t) := by split <;> assumption

theorem leaf2_underlying {S : Nat} {α : Type} {Q : α → Prop} {t : TypeId} {f : TypeDesc → Sem α} (h : ∀ d, Leaf2 S Q (f d)) : Leaf2 S Q (underlying t >>= f) := Leaf2.bind (calm_underlying t) h

set_option maxHeartbeats 1000000 in
theorem append_leaf (S : Nat) (t ty : TypeId) (base : Option Addr) (sLen sCap : Nat) (a : Addr) (m c : Nat) :
    Leaf2 S (Lies S (.slice base sLen sCap)) (Builtin.append_ #[t, t] ty #[.slice base sLen sCap, .slice (some a) m c]) := by
  unfold Builtin.append_
  show Leaf2 S _ (underlying t >>= _)
  refine leaf2_underlying fun d => ?_
  split
  · next elem =>
    show Leaf2 S _ (Go.sizeOf _ >>= _)
    refine Leaf2.bind (calm_sizeOf _) fun size => ?_
    show Leaf2 S _ (underlying t >>= _)
    refine leaf2_underlying fun d' => ?_
    refine Leaf2.bind (s := pure _) trivial fun zeros => ?_
    cases zeros
    case true => exact trivial
    case false =>
      have A : ∀ n : Nat, Calm (Builtin.firstCells size n (.slice (some a) m c)) := fun n => calm_firstCells _ _ _
      show Leaf2 S _ (Builtin.lenOf _ >>= _)
      refine Leaf2.bind (calm_lenOf _) fun n => ?_
      show Leaf2 S _ (if sLen + n ≤ sCap then _ else _)
      split
      · show Leaf2 S _ (Builtin.firstCells size n (.slice (some a) m c) >>= _)
        refine Leaf2.bind (A n) fun new => ?_
        cases base
        · exact Or.inl rfl
        · exact Leaf2.of (Leaf.bind _ fun _ => Or.inl rfl)
      · show Leaf2 S _ (typeInfo elem >>= _)
        refine Leaf2.bind (calm_typeInfo _) fun i => ?_
        show Leaf2 S _ (if _ then _ else _)
        split
        · refine Leaf2.bind (calm_runtimePanic _) fun _ => ?_
          refine Leaf2.bind (calm_typeInfo _) fun i => ?_
          show Leaf2 S _ (if _ then _ else _)
          split
          · refine Leaf2.bind ?_ fun _ => Leaf2.bind (calm_choose _) fun _ => Leaf2.bind (calm_typeInfo _) fun _ => Leaf2.bind (calm_askRoom _) fun _ => Leaf2.bind (calm_firstCells _ _ _) fun _ => Leaf2.bind (A n) fun _ => Leaf2.bind (calm_zeroValue _) fun _ => new_leaf S _ _ _ _ _
            refine calm_ite (calm_runtimePanic _) ((calm_mayShare _ _ _ _ _).bind fun _ => calm_ite ((calm_mark _).bind fun _ => calm_unsupported _) (calm_unsupported _))
          · exact Leaf2.bind (calm_choose _) fun _ => Leaf2.bind (calm_typeInfo _) fun _ => Leaf2.bind (calm_askRoom _) fun _ => Leaf2.bind (calm_firstCells _ _ _) fun _ => Leaf2.bind (A n) fun _ => Leaf2.bind (calm_zeroValue _) fun _ => new_leaf S _ _ _ _ _
        · refine Leaf2.bind (calm_typeInfo _) fun i => ?_
          show Leaf2 S _ (if _ then _ else _)
          split
          · refine Leaf2.bind ?_ fun _ => Leaf2.bind (calm_choose _) fun _ => Leaf2.bind (calm_typeInfo _) fun _ => Leaf2.bind (calm_askRoom _) fun _ => Leaf2.bind (calm_firstCells _ _ _) fun _ => Leaf2.bind (A n) fun _ => Leaf2.bind (calm_zeroValue _) fun _ => new_leaf S _ _ _ _ _
            refine calm_ite (calm_runtimePanic _) ((calm_mayShare _ _ _ _ _).bind fun _ => calm_ite ((calm_mark _).bind fun _ => calm_unsupported _) (calm_unsupported _))
          · exact Leaf2.bind (calm_choose _) fun _ => Leaf2.bind (calm_typeInfo _) fun _ => Leaf2.bind (calm_askRoom _) fun _ => Leaf2.bind (calm_firstCells _ _ _) fun _ => Leaf2.bind (A n) fun _ => Leaf2.bind (calm_zeroValue _) fun _ => new_leaf S _ _ _ _ _
  · trivial

theorem append_lies {t ty : TypeId} {base : Option Addr} {sLen sCap : Nat} {a : Addr} {m c : Nat} {P : Program} {w w' : World} {v' : Value} (h : (Builtin.append_ #[t, t] ty #[.slice base sLen sCap, .slice (some a) m c]).run P w = .ok v' w') :
    Lies w.heap.size (.slice base sLen sCap) v' := (append_leaf w.heap.size t ty base sLen sCap a m c).run (Nat.le_refl _) h

end Go.Proofs.Ytljclgphgojphaa
