/- Rows that grow by append: where they lie, and what they hold.
  Columns of amounts, kept in rows that grow; the contract of sums.
  The contract of even. -/
import Derived.Test.YtiehbbhjpcnbnaaGreatMAE
import Derived.Test.YtiehbbhjpcnbnaaGreatMAF
import Derived.Test.YtiehbbhjpcnbnaaGreatMAB
import Derived.ChangeKeysEq
import Derived.Deep.RegionHeld3
import Derived.Deep.RegionLaw
import Derived.Deep.CutRange
import Derived.Deep.CutBlock
import Derived.Deep.DeepCutAuto
namespace Go.Proofs.YtiehbbhjpcnbnaaGreat
open Go.RowKit
set_option linter.unusedVariables false

/-- Each answer of the tree is such. -/
def Leaf {α : Type} (Q : α → Prop) : Sem α → Prop
  | .pure a => Q a
  | .load _ _ k => ∀ v, Leaf Q (k v)
  | .store _ _ _ k => Leaf Q k
  | .new _ k => ∀ n, Leaf Q (k n)
  | .shape _ k => ∀ s, Leaf Q (k s)
  | .freeze _ _ k => Leaf Q k
  | .frozen _ k => ∀ b, Leaf Q (k b)
  | .getObj _ k => ∀ o, Leaf Q (k o)
  | .setObj _ _ k => Leaf Q k
  | .choose _ k => ∀ n, Leaf Q (k n)
  | .sys _ k => ∀ r, Leaf Q (k r)
  | .program k => ∀ p, Leaf Q (k p)
  | .mark _ k => Leaf Q k
  | .halt _ => True

theorem Leaf.bind {α β : Type} {Q : β → Prop} (s : Sem α) {f : α → Sem β} (hf : ∀ a, Leaf Q (f a)) : Leaf Q (s >>= f) := by
  show Leaf Q (s.bind f)
  induction s with
  | pure a => exact hf a
  | load m a k ih => intro v; exact ih v
  | store m a v k ih => exact ih
  | new o k ih => intro n; exact ih n
  | shape r k ih => intro n; exact ih n
  | freeze a n k ih => exact ih
  | frozen a k ih => intro n; exact ih n
  | getObj r k ih => intro n; exact ih n
  | setObj r o k ih => exact ih
  | choose r k ih => intro n; exact ih n
  | sys c k ih => intro n; exact ih n
  | program k ih => intro n; exact ih n
  | mark m k ih => exact ih
  | halt h => trivial

theorem Leaf.run {α : Type} {Q : α → Prop} {p : Program} {s : Sem α} (h : Leaf Q s) : ∀ {w a w'}, s.run p w = .ok a w' → Q a := by
  induction s with
  | pure a => intro w b w' e; cases e; exact h
  | load m a k ih =>
    intro w b w' e
    simp only [Sem.run] at e
    split at e
    · exact ih _ (h _) e
    · split at e
      · exact ih _ (h _) e
      · cases e
  | store m a v k ih =>
    intro w b w' e
    cases v <;> simp only [Sem.run] at e <;> first | cases e | skip
    all_goals
      split at e
      · split at e
        · cases e
        · exact ih h e
      · split at e
        · exact ih h e
        · cases e
  | new o k ih => intro w b w' e; exact ih _ (h _) e
  | shape r k ih => intro w b w' e; exact ih _ (h _) e
  | freeze a n k ih => intro w b w' e; exact ih h e
  | frozen a k ih => intro w b w' e; exact ih _ (h _) e
  | getObj r k ih =>
    intro w b w' e
    simp only [Sem.run] at e
    split at e
    · cases e
    · exact ih _ (h _) e
    · cases e
  | setObj r o k ih =>
    intro w b w' e
    simp only [Sem.run] at e
    split at e
    · cases e
    · exact ih h e
    · cases e
  | choose q k ih =>
    intro w b w' e
    simp only [Sem.run] at e
    split at e
    · exact ih _ (h _) e
    · exact ih _ (h _) e
  | sys c k ih => intro w b w' e; exact ih _ (h _) e
  | program k ih => intro w b w' e; exact ih _ (h _) e
  | mark m k ih => intro w b w' e; exact ih h e
  | halt e => intro w b w' e'; cases e'

/-- each answer of the tree is such, where a block that is made before anything is written is numbered from S on -/
def Leaf2 (S : Nat) {α : Type} (Q : α → Prop) : Sem α → Prop
  | .pure a => Q a
  | .load _ _ k => ∀ v, Leaf2 S Q (k v)
  | .store _ _ _ k => Leaf Q k
  | .new _ k => ∀ n, S ≤ n → Leaf Q (k n)
  | .shape _ k => ∀ s, Leaf2 S Q (k s)
  | .freeze _ _ k => Leaf Q k
  | .frozen _ k => ∀ b, Leaf2 S Q (k b)
  | .getObj _ k => ∀ o, Leaf2 S Q (k o)
  | .setObj _ _ k => Leaf Q k
  | .choose _ k => ∀ n, Leaf2 S Q (k n)
  | .sys _ k => ∀ r, Leaf Q (k r)
  | .program k => ∀ p, Leaf2 S Q (k p)
  | .mark _ k => Leaf2 S Q k
  | .halt _ => True

/-- a tree that writes and makes nothing -/
def Calm {α : Type} : Sem α → Prop
  | .pure _ => True
  | .load _ _ k => ∀ v, Calm (k v)
  | .shape _ k => ∀ s, Calm (k s)
  | .frozen _ k => ∀ b, Calm (k b)
  | .getObj _ k => ∀ o, Calm (k o)
  | .choose _ k => ∀ n, Calm (k n)
  | .program k => ∀ p, Calm (k p)
  | .mark _ k => Calm k
  | .halt _ => True
  | _ => False

theorem Leaf2.bind {S : Nat} {α β : Type} {Q : β → Prop} {s : Sem α} (hs : Calm s) {f : α → Sem β} (hf : ∀ a, Leaf2 S Q (f a)) : Leaf2 S Q (s >>= f) := by
  show Leaf2 S Q (s.bind f)
  induction s with
  | pure a => exact hf a
  | load m a k ih => intro v; exact ih v (hs v)
  | store m a v k ih => exact hs.elim
  | new o k ih => exact hs.elim
  | shape r k ih => intro n; exact ih n (hs n)
  | freeze a n k ih => exact hs.elim
  | frozen a k ih => intro n; exact ih n (hs n)
  | getObj r k ih => intro n; exact ih n (hs n)
  | setObj r o k ih => exact hs.elim
  | choose r k ih => intro n; exact ih n (hs n)
  | sys c k ih => exact hs.elim
  | program k ih => intro n; exact ih n (hs n)
  | mark m k ih => exact ih hs
  | halt h => trivial

theorem Calm.bind {α β : Type} {s : Sem α} (hs : Calm s) {f : α → Sem β} (hf : ∀ a, Calm (f a)) : Calm (s >>= f) := by
  show Calm (s.bind f)
  induction s with
  | pure a => exact hf a
  | load m a k ih => intro v; exact ih v (hs v)
  | store m a v k ih => exact hs.elim
  | new o k ih => exact hs.elim
  | shape r k ih => intro n; exact ih n (hs n)
  | freeze a n k ih => exact hs.elim
  | frozen a k ih => intro n; exact ih n (hs n)
  | getObj r k ih => intro n; exact ih n (hs n)
  | setObj r o k ih => exact hs.elim
  | choose r k ih => intro n; exact ih n (hs n)
  | sys c k ih => exact hs.elim
  | program k ih => intro n; exact ih n (hs n)
  | mark m k ih => exact ih hs
  | halt h => trivial

theorem Leaf2.of {S : Nat} {α : Type} {Q : α → Prop} {s : Sem α} (h : Leaf Q s) : Leaf2 S Q s := by
  induction s with
  | pure a => exact h
  | load m a k ih => intro v; exact ih v (h v)
  | store m a v k ih => exact h
  | new o k ih => intro n _; exact h n
  | shape r k ih => intro n; exact ih n (h n)
  | freeze a n k ih => exact h
  | frozen a k ih => intro n; exact ih n (h n)
  | getObj r k ih => intro n; exact ih n (h n)
  | setObj r o k ih => exact h
  | choose r k ih => intro n; exact ih n (h n)
  | sys c k ih => exact h
  | program k ih => intro n; exact ih n (h n)
  | mark m k ih => exact ih h
  | halt h => trivial

theorem Leaf2.run {S : Nat} {α : Type} {Q : α → Prop} {p : Program} {s : Sem α} (h : Leaf2 S Q s) : ∀ {w a w'}, S ≤ w.heap.size → s.run p w = .ok a w' → Q a := by
  induction s with
  | pure a => intro w b w' _ e; cases e; exact h
  | load m a k ih =>
    intro w b w' hS e
    simp only [Sem.run] at e
    split at e
    · exact ih _ (h _) hS e
    · split at e
      · exact ih _ (h _) hS e
      · cases e
  | store m a v k ih =>
    intro w b w' hS e
    cases v <;> simp only [Sem.run] at e <;> first | cases e | skip
    all_goals
      split at e
      · split at e
        · cases e
        · exact Leaf.run h e
      · split at e
        · exact Leaf.run h e
        · cases e
  | new o k ih => intro w b w' hS e; exact Leaf.run (h w.heap.size hS) e
  | shape r k ih => intro w b w' hS e; exact ih _ (h _) hS e
  | freeze a n k ih => intro w b w' hS e; exact Leaf.run h e
  | frozen a k ih => intro w b w' hS e; exact ih _ (h _) hS e
  | getObj r k ih =>
    intro w b w' hS e
    simp only [Sem.run] at e
    split at e
    · cases e
    · exact ih _ (h _) hS e
    · cases e
  | setObj r o k ih =>
    intro w b w' hS e
    simp only [Sem.run] at e
    split at e
    · cases e
    · exact Leaf.run h e
    · cases e
  | choose q k ih =>
    intro w b w' hS e
    simp only [Sem.run] at e
    split at e
    · exact ih _ (h _) hS e
    · exact ih _ (h _) (w := { w with drawn := w.drawn + 1 }) hS e
  | sys c k ih => intro w b w' hS e; exact Leaf.run (h _) e
  | program k ih => intro w b w' hS e; exact ih _ (h _) hS e
  | mark m k ih => intro w b w' hS e; exact ih h hS e
  | halt e => intro w b w' hS e'; cases e'

theorem calm_underlying (t : TypeId) : Calm (underlying t) := fun p => by
  show Calm (match p.underlying t with | some d => pure d | none => stuck "no such type")
  split <;> trivial
theorem calm_typeInfo (t : TypeId) : Calm (typeInfo t) := fun p => by
  show Calm (match p.info? t with | some i => pure i | none => stuck "no such type")
  split <;> trivial
theorem calm_sizeOf (t : TypeId) : Calm (Go.sizeOf t) := (calm_typeInfo t).bind fun _ => trivial
theorem calm_zeroValue (t : TypeId) : Calm (zeroValue t) := (calm_typeInfo t).bind fun _ => by split <;> trivial
theorem calm_loadCellsFrom (a : Addr) : ∀ n i acc, Calm (loadCellsFrom a i n acc) := by
  intro n
  induction n with
  | zero => intro i acc; trivial
  | succ n ih => intro i acc; exact fun v => ih _ _
theorem calm_firstCells (size n : Nat) (v : Value) : Calm (Builtin.firstCells size n v) := by
  unfold Builtin.firstCells
  split <;> first | trivial | exact calm_loadCellsFrom _ _ _ _
theorem calm_frozen (a : Addr) : Calm (frozen a) := fun _ => trivial
theorem calm_mayShare (size sLen n : Nat) (base : Option Addr) (x : Value) : Calm (Builtin.mayShare size sLen n base x) := by
  have hc : ∀ (a : Addr) (k : Nat), Calm (Builtin.holdsCells a k) := fun a k s => by
    show Calm (match s with | some (_, n) => pure (a.spot.isNone && a.off + k ≤ n) | none => pure false)
    split <;> trivial
  unfold Builtin.mayShare
  have J : ∀ there : Bool, Calm (do
      if !there then return true
      match x with
      | .slice (some b) _ _ => do pure (!(← Builtin.holdsCells b (n * size)) || base.any (·.block == b.block))
      | _ => pure false) := by
    intro there
    split
    · trivial
    · split
      · exact (hc _ _).bind fun _ => trivial
      · trivial
  cases base with
  | none => exact J true
  | some a => exact (hc _ _).bind fun _ => (calm_frozen _).bind fun _ => J _

theorem calm_runtimePanic {α : Type} (m : String) : Calm (runtimePanic (.error m) : Sem α) := fun _ => trivial
theorem calm_asInt (v : Value) : Calm (asInt v) := Calm.bind (by unfold asIntOf; split <;> trivial) fun _ => trivial
theorem calm_askRoom (n : Nat) : Calm (askRoom n) := by unfold askRoom; split <;> trivial
theorem calm_lenOf (v : Value) : Calm (Builtin.lenOf v) := by unfold Builtin.lenOf; split <;> trivial

/-- append's answer lies where the row lay, or in a new block -/
def Lies (S : Nat) (v v' : Value) : Prop := v'.ownBlock = v.ownBlock ∨ ∃ g, S ≤ g ∧ v'.ownBlock = some g

theorem new_leaf (S : Nat) (v : Value) (elem : TypeId) (cs : Array Value) (n c : Nat) : Leaf2 S (Lies S v) (do pure (Value.slice (some (← newRow elem cs)) n c) : Sem Value) := fun g hg => Or.inr ⟨g, hg, rfl⟩

theorem calm_mark (m : Mark) : Calm (mark m) := trivial
theorem calm_unsupported {α : Type} (u : Unsupported) : Calm (unsupported u : Sem α) := trivial
theorem calm_choose (q : Question) : Calm (choose q) := fun _ => trivial
theorem calm_pure {α : Type} (a : α) : Calm (pure a : Sem α) := trivial
theorem calm_ite {α : Type} {c : Prop} [Decidable c] {s t : Sem α} (hs : Calm s) (ht : Calm t) : Calm (if c then s else t) := by split <;> assumption

theorem leaf2_underlying {S : Nat} {α : Type} {Q : α → Prop} {t : TypeId} {f : TypeDesc → Sem α} (h : ∀ d, Leaf2 S Q (f d)) : Leaf2 S Q (underlying t >>= f) := Leaf2.bind (calm_underlying t) h

set_option maxHeartbeats 1000000 in
theorem append_leaf (S : Nat) (t ty : TypeId) (base : Option Addr) (sLen sCap : Nat) (a : Addr) (m c : Nat) :
    Leaf2 S (Lies S (.slice base sLen sCap)) (Builtin.append_ #[t, t] ty #[.slice base sLen sCap, .slice (some a) m c]) := by
  unfold Builtin.append_
  show Leaf2 S _ (underlying t >>= _)
  refine leaf2_underlying fun d => ?_
  split
  · next elem =>
    show Leaf2 S _ (Go.sizeOf _ >>= _)
    refine Leaf2.bind (calm_sizeOf _) fun size => ?_
    show Leaf2 S _ (underlying t >>= _)
    refine leaf2_underlying fun d' => ?_
    refine Leaf2.bind (s := pure _) trivial fun zeros => ?_
    cases zeros
    case true => exact trivial
    case false =>
      have A : ∀ n : Nat, Calm (Builtin.firstCells size n (.slice (some a) m c)) := fun n => calm_firstCells _ _ _
      show Leaf2 S _ (Builtin.lenOf _ >>= _)
      refine Leaf2.bind (calm_lenOf _) fun n => ?_
      show Leaf2 S _ (if sLen + n ≤ sCap then _ else _)
      split
      · show Leaf2 S _ (Builtin.firstCells size n (.slice (some a) m c) >>= _)
        refine Leaf2.bind (A n) fun new => ?_
        cases base
        · exact Or.inl rfl
        · exact Leaf2.of (Leaf.bind _ fun _ => Or.inl rfl)
      · show Leaf2 S _ (typeInfo elem >>= _)
        refine Leaf2.bind (calm_typeInfo _) fun i => ?_
        show Leaf2 S _ (if _ then _ else _)
        split
        · refine Leaf2.bind (calm_runtimePanic _) fun _ => ?_
          refine Leaf2.bind (calm_typeInfo _) fun i => ?_
          show Leaf2 S _ (if _ then _ else _)
          split
          · refine Leaf2.bind ?_ fun _ => Leaf2.bind (calm_choose _) fun _ => Leaf2.bind (calm_typeInfo _) fun _ => Leaf2.bind (calm_askRoom _) fun _ => Leaf2.bind (calm_firstCells _ _ _) fun _ => Leaf2.bind (A n) fun _ => Leaf2.bind (calm_zeroValue _) fun _ => new_leaf S _ _ _ _ _
            refine calm_ite (calm_runtimePanic _) ((calm_mayShare _ _ _ _ _).bind fun _ => calm_ite ((calm_mark _).bind fun _ => calm_unsupported _) (calm_unsupported _))
          · exact Leaf2.bind (calm_choose _) fun _ => Leaf2.bind (calm_typeInfo _) fun _ => Leaf2.bind (calm_askRoom _) fun _ => Leaf2.bind (calm_firstCells _ _ _) fun _ => Leaf2.bind (A n) fun _ => Leaf2.bind (calm_zeroValue _) fun _ => new_leaf S _ _ _ _ _
        · refine Leaf2.bind (calm_typeInfo _) fun i => ?_
          show Leaf2 S _ (if _ then _ else _)
          split
          · refine Leaf2.bind ?_ fun _ => Leaf2.bind (calm_choose _) fun _ => Leaf2.bind (calm_typeInfo _) fun _ => Leaf2.bind (calm_askRoom _) fun _ => Leaf2.bind (calm_firstCells _ _ _) fun _ => Leaf2.bind (A n) fun _ => Leaf2.bind (calm_zeroValue _) fun _ => new_leaf S _ _ _ _ _
            refine calm_ite (calm_runtimePanic _) ((calm_mayShare _ _ _ _ _).bind fun _ => calm_ite ((calm_mark _).bind fun _ => calm_unsupported _) (calm_unsupported _))
          · exact Leaf2.bind (calm_choose _) fun _ => Leaf2.bind (calm_typeInfo _) fun _ => Leaf2.bind (calm_askRoom _) fun _ => Leaf2.bind (calm_firstCells _ _ _) fun _ => Leaf2.bind (A n) fun _ => Leaf2.bind (calm_zeroValue _) fun _ => new_leaf S _ _ _ _ _
  · trivial

theorem append_lies {t ty : TypeId} {base : Option Addr} {sLen sCap : Nat} {a : Addr} {m c : Nat} {P : Program} {w w' : World} {v' : Value} (h : (Builtin.append_ #[t, t] ty #[.slice base sLen sCap, .slice (some a) m c]).run P w = .ok v' w') :
    Lies w.heap.size (.slice base sLen sCap) v' := (append_leaf w.heap.size t ty base sLen sCap a m c).run (Nat.le_refl _) h

end Go.Proofs.YtiehbbhjpcnbnaaGreat
namespace Go.Proofs.YtiehbbhjpcnbnaaGreat
open Go.RowKit
set_option linter.unusedVariables false

/-- a row of amounts of the call's own -/
def OwnI (B : Nat) (w : World) (v : Value) (xs : List Int) : Prop := w.ownsRow B 2 1 v xs.length (xs.map (Value.int .i64))
theorem OwnI.block {B : Nat} {w w' : World} {v : Value} {l : List Int} (h : OwnI B w v l) (hb : ∀ g, v.ownBlock = some g → w'.heap[g]? = w.heap[g]?) : OwnI B w' v l := by
  obtain ⟨hlen, h⟩ := h
  refine ⟨hlen, h.imp id ?_⟩
  rintro ⟨g, cap, cur, rfl, hg, hh, r⟩
  exact ⟨g, cap, cur, rfl, hg, (hb g rfl).trans hh, r⟩
theorem OwnI.lt {B : Nat} {w : World} {v : Value} {l : List Int} (h : OwnI B w v l) : ∀ k, v.ownBlock = some k → B ≤ k ∧ k < w.heap.size := World.ownsRow.lt h
theorem OwnI.obj {B : Nat} {w : World} {v : Value} {l : List Int} (h : OwnI B w v l) {k : Nat} (hk : v.ownBlock = some k) : ∃ cs, w.heap[k]? = some (.cells cs 2 (0, 0)) := by
  rcases h.2 with ⟨rfl, _⟩ | ⟨g, cap, cur, rfl, _, hh, _⟩
  · cases hk
  · injection hk with hk; subst hk; exact ⟨cur, hh⟩
theorem OwnI.shape {B : Nat} {w : World} {v : Value} {l : List Int} (h : OwnI B w v l) : ∃ p cap, v = .slice p l.length cap := by
  rcases h.2 with ⟨rfl, h0⟩ | ⟨g, cap, cur, rfl, _⟩
  · exact ⟨none, 0, by rw [h0]⟩
  · exact ⟨_, cap, rfl⟩
theorem OwnI.seq {B : Nat} {w : World} {p : Option Addr} {cap : Nat} {l : List Int} (h : OwnI B w (.slice p l.length cap) l) (hx : ∀ x ∈ l, In64 x) (hl : l.length ≤ 1000) : Seq64 w p l.length l := by
  refine ⟨rfl, amt_getD l hx, by omega, ?_⟩
  · rcases h.2 with ⟨e, h0⟩ | ⟨g, cap', cur, e, hg, hh, hn, hm, hs, ht⟩
    · exact .inl h0
    · injection e with e1 e2 e3
      refine .inr ⟨g, 0, e1, obj_lt hh, fun i hi => obj_cell hh ?_⟩
      have e : ((l.map (Value.int .i64)))[i]? = cur[0 + i]? := by rw [← ht, List.getElem?_take, if_pos (by omega), Array.getElem?_toList, Nat.zero_add]
      rw [← e, List.getElem?_map, List.getD_eq_getElem?_getD, List.getElem?_eq_getElem hi]
      rfl
set_option maxRecDepth 100000 in
theorem appX_run (w : World) (B : Nat) (v : Value) (l : List Int) (hown : OwnI B w v l) (hB : B ≤ w.heap.size) (a : Addr) (x : Int) (hx : w.cell? (a.add 0) = some (.int .i64 x)) (hn : l.length + 1 ≤ 1000) :
    ∃ v' w', (Builtin.append_ #[56, 56] 56 #[v, .slice (some a) 1 1]).run Tryz.prog w = .ok v' w' ∧ OwnI B w' v' (l ++ [x]) ∧ w.grownBy w' v.ownBlock ∧ Lies w.heap.size v v' := by
  obtain ⟨i0, hi, hz0, hz1, hz2⟩ := info_parts Tryz.info2r
  obtain ⟨v', w', h2, h3, h4, _⟩ := run_append_own (P := Tryz.prog) w B 56 56 2 i0 (.int .i64 0) 1 8 Tryz.underlying56 hi hz0 hz1 hz2 rfl (by decide) v l.length (l.map (Value.int .i64)) hown a 1 1 [.int .i64 x] rfl
    (fun j u hu => by
      match j with
      | 0 => injection hu with hu; rw [← hu]; exact hx
      | j + 1 => simp at hu)
    (fun u hu => by obtain rfl := List.mem_singleton.1 hu; rfl) (by unfold maxLen; omega) (by omega) hB
  refine ⟨v', w', h2, ?_, h4, ?_⟩
  · unfold OwnI
    rw [List.length_append, List.map_append]
    exact h3
  · obtain ⟨p, cap, rfl⟩ := hown.shape
    exact append_lies h2
/-- eight rows in one block -/
def c8 (v : Nat → Value) : Array Value := #[v 0, v 1, v 2, v 3, v 4, v 5, v 6, v 7]
theorem c8_get (v : Nat → Value) {c : Nat} (h : c < 8) : (c8 v)[c]? = some (v c) := by
  rcases lt8 h with rfl | rfl | rfl | rfl | rfl | rfl | rfl | rfl <;> rfl
theorem c8_set (v : Nat → Value) {c : Nat} (h : c < 8) (x : Value) : (c8 v).setIfInBounds c x = c8 (upd v c x) := by
  rcases lt8 h with rfl | rfl | rfl | rfl | rfl | rfl | rfl | rfl <;> rfl
structure CS (B : Nat) (w : World) (g : Nat) (cols : Nat → List Int) (v : Nat → Value) : Prop where
  obj : w.heap[g]? = some (.cells (c8 v) 118 (0, 0))
  own : ∀ c, c < 8 → OwnI B w (v c) (cols c)
  apart : ∀ c, c < 8 → ∀ d, d < 8 → c ≠ d → ∀ k, (v c).ownBlock = some k → (v d).ownBlock ≠ some k
theorem CS.made (B : Nat) (w : World) : CS B (w.alloc (.cells (c8 fun _ => .slice none 0 0) 118)) w.heap.size (fun _ => []) (fun _ => .slice none 0 0) :=
  ⟨heap_alloc_new w _, fun c _ => World.ownsRow_nil _ _ _ _, fun c _ d _ _ k hk => by cases hk⟩
theorem CS.at {B : Nat} {w w' : World} {g : Nat} {cols : Nat → List Int} {v : Nat → Value} (h : CS B w g cols v) (hb : ∀ j, j < w.heap.size → w'.heap[j]? = w.heap[j]?) : CS B w' g cols v :=
  ⟨(hb _ (obj_lt h.obj)).trans h.obj, fun c hc => (h.own c hc).block fun k hk => hb k ((h.own c hc).lt k hk).2, h.apart⟩
/-- an amount more in a column -/
theorem CS.more {B : Nat} {w w' : World} {g c : Nat} {cols : Nat → List Int} {v : Nat → Value} {x : Int} {v' : Value} (h : CS B w g cols v) (hc : c < 8) (ho : OwnI B w' v' (cols c ++ [x])) (hg : w.grownBy w' (v c).ownBlock) (hl : Lies w.heap.size (v c) v') :
    CS B (w'.setCell ⟨g, c, none⟩ v') g (upd cols c (cols c ++ [x])) (upd v c v') := by
  have hgl := obj_lt h.obj
  have hobj' : w'.heap[g]? = some (.cells (c8 v) 118 (0, 0)) := (hg.block g hgl (fun e => by
    obtain ⟨cs, hcs⟩ := (h.own c hc).obj e.symm
    rw [h.obj] at hcs
    simp at hcs)).trans h.obj
  have hne : ∀ {u : Value} {l : List Int} {k : Nat}, OwnI B w' u l → u.ownBlock = some k → k ≠ g := fun ho hk e => by
    subst e
    obtain ⟨cs, hcs⟩ := ho.obj hk
    rw [hobj'] at hcs
    simp at hcs
  have hold : ∀ d, d < 8 → d ≠ c → OwnI B w' (v d) (cols d) := fun d hd hdc => (h.own d hd).block fun k hk => hg.block k ((h.own d hd).lt k hk).2 (fun e => h.apart d hd c hc hdc k hk e.symm)
  refine ⟨?_, fun d hd => ?_, fun d hd e he hde k hk => ?_⟩
  · rw [← c8_set v hc]
    exact obj_set hobj' c v'
  · by_cases e : d = c
    · subst e
      rw [upd_same, upd_same]
      exact ho.block fun k hk => obj_other _ (hne ho hk)
    · rw [upd_other _ _ e, upd_other _ _ e]
      exact (hold d hd e).block fun k hk => obj_other _ (hne (hold d hd e) hk)
  · by_cases e1 : d = c
    · subst e1
      rw [upd_same] at hk
      rw [upd_other _ _ (Ne.symm hde)]
      rcases hl with hl | ⟨q, hq, hl⟩
      · rw [hl] at hk
        exact h.apart d hd e he hde k hk
      · rw [hl] at hk
        injection hk with hk
        subst hk
        intro h3
        have := ((h.own e he).lt _ h3).2
        omega
    · rw [upd_other _ _ e1] at hk
      by_cases e2 : e = c
      · subst e2
        rw [upd_same]
        rcases hl with hl | ⟨q, hq, hl⟩
        · rw [hl]
          exact h.apart d hd e he hde k hk
        · rw [hl]
          intro h3
          injection h3 with h3
          subst h3
          have := ((h.own d hd).lt _ hk).2
          omega
      · rw [upd_other _ _ e2]
        exact h.apart d hd e he hde k hk

/-- do all columns' sums fit? -/
def fitC (cols : Nat → List Int) : Bool := (List.range 8).all fun c => decide (In64 (sumL (cols c)))
theorem fitC_iff {cols : Nat → List Int} : fitC cols = true ↔ ∀ c, c < 8 → In64 (sumL (cols c)) := by
  unfold fitC
  rw [List.all_eq_true]
  exact ⟨fun h c hc => of_decide_eq_true (h c (List.mem_range.2 hc)), fun h c hc => decide_eq_true (h c (List.mem_range.1 hc))⟩
def sumR (cols : Nat → List Int) : Nat → Int := if fitC cols then fun c => sumL (cols c) else fun _ => 0
/-- what sums tells -/
def SumsP (cols : Nat → List Int) (w : World) (e : Ending) (w' : World) : Prop := e = .returned (.tuple #[.agg (r8 (sumR cols)), .int .i64 (if fitC cols then 0 else 3)]) ∧ Below w.heap.size w w'
theorem index98 (p : Nat → Option Addr) (n m : Nat → Nat) (w : World) {c : Nat} (hc : c < 8) : (Instr.index 118 (.agg #[.slice (p 0) (n 0) (m 0), .slice (p 1) (n 1) (m 1), .slice (p 2) (n 2) (m 2), .slice (p 3) (n 3) (m 3), .slice (p 4) (n 4) (m 4), .slice (p 5) (n 5) (m 5), .slice (p 6) (n 6) (m 6), .slice (p 7) (n 7) (m 7)]) (.int .i64 (c : Int))).run Tryz.prog w = .ok (.slice (p c) (n c) (m c)) w := by
  rcases lt8 hc with rfl | rfl | rfl | rfl | rfl | rfl | rfl | rfl <;> kernel_rfl
/-- sums's way -/
structure SSt (w : World) (cols : Nat → List Int) (k : Nat) (wr : World) : Prop where
  z : BX wr (w.heap.size + 1) fun _ => 0
  s : BX wr (w.heap.size + 1 + 1) fun c => if c < k then sumL (cols c) else 0
  fit : ∀ c, c < k → In64 (sumL (cols c))
  blw : Below w.heap.size w wr

set_option maxHeartbeats 4000000 in
set_option maxRecDepth 100000 in
theorem sums_any (p : Nat → Option Addr) (n m : Nat → Nat) (cols : Nat → List Int) (w : World) (hs : ∀ c, c < 8 → Seq64 w (p c) (n c) (cols c)) :
    Calls Tryz.prog 55 #[.agg (c8 fun c => .slice (p c) (n c) (m c))] w (SumsP cols w) := by
  have hB0 : Below w.heap.size w (((w.alloc (.cells (c8 fun c => .slice (p c) (n c) (m c)) 118)).alloc (.cells (r8 fun _ => 0) 77)).alloc (.cells (r8 fun _ => 0) 77)) := (((Below.refl _ w).alloc (Nat.le_refl _) _).alloc (by simp) _).alloc (by simp; omega) _
  have hx := (Below.heap_alloc ((w.alloc (.cells (c8 fun c => .slice (p c) (n c) (m c)) 118)).alloc (.cells (r8 fun _ => 0) 77)) (.cells (r8 fun _ => 0) 77) w.heap.size (by simp; omega)).trans (heap_alloc2_old w (.cells (c8 fun c => .slice (p c) (n c) (m c)) 118) (.cells (r8 fun _ => 0) 77))
  have hS0 : SSt w cols 0 (((w.alloc (.cells (c8 fun c => .slice (p c) (n c) (m c)) 118)).alloc (.cells (r8 fun _ => 0) 77)).alloc (.cells (r8 fun _ => 0) 77)) := by
    refine ⟨?_, ?_, fun c hc => by omega, hB0⟩
    · exact (Below.heap_alloc _ _ _ (by simp)).trans (heap_alloc2_new w _ _)
    · have h3 := heap_alloc_new ((w.alloc (.cells (c8 fun c => .slice (p c) (n c) (m c)) 118)).alloc (.cells (r8 fun _ => 0) 77)) (.cells (r8 fun _ => 0) 77)
      simp only [World.size_alloc] at h3
      exact h3
  have hix := fun w c hc => @index98 p n m w c hc
  unfold c8 r8 at *
  generalize hv : ((w.alloc (.cells #[.slice (p 0) (n 0) (m 0), .slice (p 1) (n 1) (m 1), .slice (p 2) (n 2) (m 2), .slice (p 3) (n 3) (m 3), .slice (p 4) (n 4) (m 4), .slice (p 5) (n 5) (m 5), .slice (p 6) (n 6) (m 6), .slice (p 7) (n 7) (m 7)] 118)).alloc (.cells #[.int .i64 0, .int .i64 0, .int .i64 0, .int .i64 0, .int .i64 0, .int .i64 0, .int .i64 0, .int .i64 0] 77)).alloc (.cells #[.int .i64 0, .int .i64 0, .int .i64 0, .int .i64 0, .int .i64 0, .int .i64 0, .int .i64 0, .int .i64 0] 77) = v at *
  have x0 : v.cell? ⟨w.heap.size, 0, none⟩ = some (.slice (p 0) (n 0) (m 0)) := obj_cell hx rfl
  have x1 : v.cell? ⟨w.heap.size, 1, none⟩ = some (.slice (p 1) (n 1) (m 1)) := obj_cell hx rfl
  have x2 : v.cell? ⟨w.heap.size, 2, none⟩ = some (.slice (p 2) (n 2) (m 2)) := obj_cell hx rfl
  have x3 : v.cell? ⟨w.heap.size, 3, none⟩ = some (.slice (p 3) (n 3) (m 3)) := obj_cell hx rfl
  have x4 : v.cell? ⟨w.heap.size, 4, none⟩ = some (.slice (p 4) (n 4) (m 4)) := obj_cell hx rfl
  have x5 : v.cell? ⟨w.heap.size, 5, none⟩ = some (.slice (p 5) (n 5) (m 5)) := obj_cell hx rfl
  have x6 : v.cell? ⟨w.heap.size, 6, none⟩ = some (.slice (p 6) (n 6) (m 6)) := obj_cell hx rfl
  have x7 : v.cell? ⟨w.heap.size, 7, none⟩ = some (.slice (p 7) (n 7) (m 7)) := obj_cell hx rfl
  replace hv := Lib.hid hv
  replace hx := Lib.hid hx
  replace hB0 := Lib.hid hB0
  replace hS0 := Lib.hid hS0
  replace hs := Lib.hid hs
  replace hix := Lib.hid hix
  go_enter Tryz.func55, Tryz.ntmps55
  go_upto_region 2 with (fail)
  change Code.wp _ _ _ _ (((w.alloc (.cells #[.slice (p 0) (n 0) (m 0), .slice (p 1) (n 1) (m 1), .slice (p 2) (n 2) (m 2), .slice (p 3) (n 3) (m 3), .slice (p 4) (n 4) (m 4), .slice (p 5) (n 5) (m 5), .slice (p 6) (n 6) (m 6), .slice (p 7) (n 7) (m 7)] 118)).alloc (.cells #[.int .i64 0, .int .i64 0, .int .i64 0, .int .i64 0, .int .i64 0, .int .i64 0, .int .i64 0, .int .i64 0] 77)).alloc (.cells #[.int .i64 0, .int .i64 0, .int .i64 0, .int .i64 0, .int .i64 0, .int .i64 0, .int .i64 0, .int .i64 0] 77))
  rw [hv.out]
  go_upto_region 3 with (fail)
  clear x0 x1 x2 x3 x4 x5 x6 x7
  go_loopw [10] (fun i wr => ∃ k : Nat, k ≤ 8 ∧ i = .int .i64 (k : Int) ∧ Hid (SSt w cols k wr)) (fun i _ => 8 - (intOf i).toNat)
  case atStart => exact ⟨0, by omega, rfl, hS0⟩
  case round =>
    obtain ⟨k, hk, rfl, hS⟩ := hrel
    by_cases hk8 : k < 8
    · have hkz : (k : Int) < 8 := by omega
      have hT := hS.out
      have hik := fun w => hix.out w k hk8
      have hws := hT.blw.size
      have hsk := (hs.out k hk8).kept hT.blw
      have hsum := sum_any (p k) (n k) (m k) (cols k) wr hsk
      by_cases hI : In64 (sumL (cols k))
      · rw [(fitE_in hI).1, (fitE_in hI).2] at hsum
        replace hT := Lib.hid hT
        replace hsk := Lib.hid hsk
        replace hsum := Lib.hid hsum
        go_wp2_with fail
        with_reducible refine hsum.out.mono ?_
        rintro e w1 ⟨rfl, hb1⟩
        have hs1 : BX w1 (w.heap.size + 1 + 1) (fun c => if c < k then sumL (cols c) else 0) := hT.out.s.at (hb1.block _ (obj_lt hT.out.s))
        have hz1 : BX w1 (w.heap.size + 1) (fun _ => 0) := hT.out.z.at (hb1.block _ (obj_lt hT.out.z))
        have k0 : w1.cell? ⟨w.heap.size + 1 + 1, k, none⟩ = some (.int .i64 0) := obj_cell hs1 (by rw [r8_get _ hk8]; simp)
        have z0 := obj_free hs1 k
        have hnew : SSt w cols (k + 1) (w1.setCell ⟨w.heap.size + 1 + 1, k, none⟩ (.int .i64 (sumL (cols k)))) := by
          refine ⟨hz1.at (obj_other _ (by show w.heap.size + 1 ≠ w.heap.size + 1 + 1; omega)), ?_, fun c hc => ?_, (hT.out.blw.trans (hb1.mono hws)).setCell (by show w.heap.size ≤ w.heap.size + 1 + 1; omega) _⟩
          · have h1 := obj_set hs1 k (.int .i64 (sumL (cols k)))
            rw [r8_set _ hk8] at h1
            rw [BX, h1]
            congr 3
            funext c
            unfold upd
            by_cases e : c = k
            · subst e; simp
            · rw [if_neg e]
              dsimp only
              by_cases e2 : c < k
              · rw [if_pos e2, if_pos (by omega)]
              · rw [if_neg e2, if_neg (by omega)]
          · by_cases e : c = k
            · subst e; exact hI
            · exact hT.out.fit c (by omega)
        replace hnew := Lib.hid hnew
        replace hs1 := Lib.hid hs1
        replace hz1 := Lib.hid hz1
        replace hb1 := Lib.hid hb1
        go_wp2_with fail
        go_roundw
        case rel => exact ⟨k + 1, by omega, by go_num, hnew⟩
        case measure => simp [intOf]; omega
      · have hno : fitC cols = false := by
          cases hf : fitC cols with
          | false => rfl
          | true => exact absurd (fitC_iff.1 hf k hk8) hI
        rw [fitE_out hI] at hsum
        replace hT := Lib.hid hT
        replace hsk := Lib.hid hsk
        replace hsum := Lib.hid hsum
        replace hno := Lib.hid hno
        go_wp2_with fail
        with_reducible refine hsum.out.mono ?_
        rintro e w1 ⟨rfl, hb1⟩
        have hz1 : BX w1 (w.heap.size + 1) (fun _ => 0) := hT.out.z.at (hb1.block _ (obj_lt hT.out.z))
        obtain ⟨q0, q1, q2, q3, q4, q5, q6, q7⟩ := hz1.cells
        have z := obj_free hz1
        have hbu : Below w.heap.size w w1 := hT.out.blw.trans (hb1.mono hws)
        replace hz1 := Lib.hid hz1
        replace hb1 := Lib.hid hb1
        replace hbu := Lib.hid hbu
        go_wp2_with fail
        refine bodyPost_ret (v := .tuple #[.agg #[.int .i64 0, .int .i64 0, .int .i64 0, .int .i64 0, .int .i64 0, .int .i64 0, .int .i64 0, .int .i64 0], .int .i64 3]) ?_ rfl ⟨?_, ?_⟩
        · simp [results, Tryz.results55, go_sem, q0, q1, q2, q3, q4, q5, q6, q7]
        · unfold sumR; rw [hno.out]; rfl
        · repeat (refine Below.setCell ?_ (Nat.le_succ _) _)
          exact hbu.out
    · obtain rfl : k = 8 := by omega
      have hT := hS.out
      have hyes : fitC cols = true := fitC_iff.2 hT.fit
      have hs1 : BX wr (w.heap.size + 1 + 1) (fun c => sumL (cols c)) := by
        have h1 := hT.s
        rw [BX, r8_ext (g := fun c => sumL (cols c)) (fun c hc => if_pos hc)] at h1
        exact h1
      have hz1 := hT.z
      have hbu := hT.blw
      obtain ⟨q0, q1, q2, q3, q4, q5, q6, q7⟩ := hz1.cells
      obtain ⟨y0, y1, y2, y3, y4, y5, y6, y7⟩ := hs1.cells
      have z := obj_free hz1
      replace hT := Lib.hid hT
      replace hyes := Lib.hid hyes
      replace hs1 := Lib.hid hs1
      replace hz1 := Lib.hid hz1
      replace hbu := Lib.hid hbu
      go_wp2_with fail
      refine bodyPost_ret (v := .tuple #[.agg (r8 fun c => sumL (cols c)), .int .i64 0]) ?_ rfl ⟨?_, ?_⟩
      · simp [results, Tryz.results55, go_sem, q0, q1, q2, q3, q4, q5, q6, q7, r8]
      · unfold sumR; rw [hyes.out]; rfl
      · repeat (refine Below.setCell ?_ (Nat.le_succ _) _)
        exact hbu.out
end Go.Proofs.YtiehbbhjpcnbnaaGreat
namespace Go.Proofs.YtiehbbhjpcnbnaaGreat
open Go.RowKit
set_option linter.unusedVariables false

/-- two rows of eight that are alike -/
def eqR (f g : Nat → Int) : Bool := (List.range 8).all fun c => f c == g c
theorem Tryz.info59i : ∃ i, Tryz.prog.info? 77 = some i := by
  obtain ⟨i0, hi, _⟩ := info_parts Tryz.info59r
  exact ⟨i0, hi⟩
theorem Tryz.info2i : ∃ i, Tryz.prog.info? 2 = some i := by
  obtain ⟨i0, hi, _⟩ := info_parts Tryz.info2r
  exact ⟨i0, hi⟩
theorem eqrow_run (f g : Nat → Int) (w : World) : (Op.equalIn 10000 77 (.agg (r8 f)) (.agg (r8 g))).run Tryz.prog w = .ok (eqR f g) w := by
  obtain ⟨i, hi⟩ := Tryz.info2i
  rw [run_equalIn_array w 9999 (r8 f) (r8 g) Tryz.underlying77 hi]
  have e0 := Tryz.underlying2
  rw [show (List.range 8) = [0, 1, 2, 3, 4, 5, 6, 7] from rfl, show Tryz.prog.cellsOf 2 = 1 by kernel_rfl]
  simp [Op.eqItems, go_sem, e0, r8, eqR, List.range, List.range.loop]
  (repeat' split) <;> simp_all
/-- a currency's amounts -/
def colP (ps : List Pst) (c : Nat) : List Int := (ps.filter fun q => q.c == (c : Int)).map Pst.a
theorem colP_sum (c : Nat) : ∀ ps : List Pst, sumL (colP ps c) = sumC (c : Int) ps
  | [] => rfl
  | q :: ps => by
    unfold colP
    rw [List.filter_cons, sumC]
    have ih := colP_sum c ps
    unfold colP at ih
    by_cases e : q.c = (c : Int)
    · rw [if_pos (by simpa using e), if_pos e, List.map_cons, sumL, ih]
    · rw [if_neg (by simpa using e), if_neg e, ih]; omega
theorem colP_len (ps : List Pst) (c : Nat) : (colP ps c).length ≤ ps.length := by
  unfold colP
  rw [List.length_map]
  exact List.length_filter_le _ _
theorem colP_mem {ps : List Pst} {c : Nat} {x : Int} (h : x ∈ colP ps c) : ∃ q ∈ ps, q.a = x := by
  unfold colP at h
  obtain ⟨q, hq, rfl⟩ := List.mem_map.1 h
  exact ⟨q, (List.mem_filter.1 hq).1, rfl⟩
theorem colP_snoc (ps : List Pst) (q : Pst) (j : Nat) (hj : q.c = (j : Int)) : colP (ps ++ [q]) = upd (colP ps) j (colP ps j ++ [q.a]) := by
  funext c
  unfold upd colP
  rw [List.filter_append, List.map_append]
  by_cases e : c = j
  · subst e
    rw [if_pos rfl, List.filter_cons, if_pos (by simpa using hj)]
    rfl
  · rw [if_neg e, List.filter_cons, if_neg (by simp; omega)]
    simp
def evenB (ps : List Pst) : Bool := (List.range 8).all fun c => sumC (c : Nat) ps == 0
theorem evenB_iff {ps : List Pst} : evenB ps = true ↔ ∀ c : Nat, c < 8 → sumC (c : Nat) ps = 0 := by
  unfold evenB
  rw [List.all_eq_true]
  exact ⟨fun h c hc => by simpa using h c (List.mem_range.2 hc), fun h c hc => by simpa using h c (List.mem_range.1 hc)⟩
theorem sumC_none {c : Int} : ∀ {ps : List Pst}, (∀ q ∈ ps, q.c ≠ c) → sumC c ps = 0
  | [], _ => rfl
  | q :: ps, h => by
    rw [sumC, if_neg (h q (List.mem_cons_self ..)), sumC_none fun q hq => h q (List.mem_cons_of_mem _ hq)]
    rfl
theorem even_evenB {l : LM} (h8 : l.nc ≤ 8) {ps : List Pst} (hk : l.known ps = true) : evenB ps = l.even ps := by
  refine Bool.eq_iff_iff.2 ?_
  rw [evenB_iff, even_iff]
  refine ⟨fun h c hc => h c (by omega), fun h c hc => ?_⟩
  by_cases e : c < l.nc
  · exact h c e
  · exact sumC_none fun q hq => by have := LM.has_iff.1 (known_mem hk q hq); omega
theorem fit_even {ps : List Pst} (h : evenB ps = true) : fitC (colP ps) = true := fitC_iff.2 fun c hc => by rw [colP_sum, evenB_iff.1 h c hc]; decide
/-- the row of sums against a row of 0 -/
def allZ (f : Nat → Int) : Bool := (List.range 8).all fun c => f c == 0
theorem evenB_eq (ps : List Pst) : evenB ps = (fitC (colP ps) && allZ (sumR (colP ps))) := by
  refine Bool.eq_iff_iff.2 ?_
  rw [Bool.and_eq_true]
  constructor
  · intro h
    refine ⟨fit_even h, ?_⟩
    unfold allZ sumR
    rw [fit_even h, List.all_eq_true]
    intro c hc
    have := evenB_iff.1 h c (List.mem_range.1 hc)
    simp [colP_sum, this]
  · rintro ⟨h1, h2⟩
    unfold allZ sumR at h2
    rw [h1, List.all_eq_true] at h2
    refine evenB_iff.2 fun c hc => ?_
    have := h2 c (List.mem_range.2 hc)
    simpa [colP_sum] using this
/-- even's way -/
structure ESt (w : World) (ps : List Pst) (k : Nat) (v : Nat → Value) (wr : World) : Prop where
  cs : CS w.heap.size wr w.heap.size (colP (ps.take k)) v
  blw : Below w.heap.size w wr

set_option maxHeartbeats 4000000 in
set_option maxRecDepth 100000 in
theorem even_any (p : Option Addr) (len cap : Nat) (ps : List Pst) (w : World) (h : PRow w p len ps) (hlen : len ≤ 30) (hk : ∀ q ∈ ps, 0 ≤ q.c ∧ q.c < 8) :
    Calls Tryz.prog 37 #[.slice p len cap] w fun e w' => e = .returned (.bool (evenB ps)) ∧ Below w.heap.size w w' := by
  have hS0 : ESt w ps 0 (fun _ => .slice none 0 0) (w.alloc (.cells #[.slice none 0 0, .slice none 0 0, .slice none 0 0, .slice none 0 0, .slice none 0 0, .slice none 0 0, .slice none 0 0, .slice none 0 0] 118)) := ⟨CS.made _ w, (Below.refl _ w).alloc (Nat.le_refl _) _⟩
  replace hS0 := Lib.hid hS0
  replace h := Lib.hid h
  replace hk := Lib.hid hk
  go_enter Tryz.func37, Tryz.ntmps37
  go_upto_region 3 with (fail)
  go_loopw [10] (fun i wr => ∃ (k : Nat) (v : Nat → Value), k ≤ len ∧ i = .int .i64 (k : Int) ∧ Hid (ESt w ps k v wr)) (fun i _ => len - (intOf i).toNat)
  case atStart => exact ⟨0, _, by omega, rfl, hS0⟩
  case round =>
    obtain ⟨k, v, hk', rfl, hS⟩ := hrel
    by_cases hkl : k < len
    · have hkz : (k : Int) < (len : Int) := by omega
      have hT := hS.out
      have hws := hT.blw.size
      obtain ⟨hpl, hin, hrow⟩ := h.out
      obtain ⟨b, off, rfl, hbs, hcells⟩ := hrow.resolve_left (by omega)
      obtain ⟨q, hq⟩ : ∃ q, ps[k]? = some q := ⟨ps[k], List.getElem?_eq_getElem (by omega)⟩
      obtain ⟨q0, q1, q2⟩ := hcells k q hq
      replace q0 := (hT.blw.cell (p := ⟨b, off + k * 3, none⟩) hbs).trans q0
      replace q1 := (hT.blw.cell (p := ⟨b, off + k * 3 + 1, none⟩) hbs).trans q1
      replace q2 := (hT.blw.cell (p := ⟨b, off + k * 3 + 2, none⟩) hbs).trans q2
      have hqc := hk.out q (List.mem_of_getElem? hq)
      obtain ⟨j, hj⟩ : ∃ j : Nat, q.c = j := ⟨q.c.toNat, by omega⟩
      rw [hj] at q1
      have hj8 : j < 8 := by omega
      have hjz : (j : Int) < 8 := by omega
      have hbx := heap_alloc_new wr (.cells #[.int .i64 q.m, .int .i64 (j : Int), .int .i64 q.a] 60)
      have hC1 := hT.cs.at (w' := wr.alloc (.cells #[.int .i64 q.m, .int .i64 (j : Int), .int .i64 q.a] 60)) (fun y hy => Below.heap_alloc _ _ _ hy)
      have hB1 : Below w.heap.size w (wr.alloc (.cells #[.int .i64 q.m, .int .i64 (j : Int), .int .i64 q.a] 60)) := hT.blw.alloc hws _
      replace hcells := Lib.hid hcells
      replace hin := Lib.hid hin
      replace hpl := Lib.hid hpl
      replace hT := Lib.hid hT
      replace hrow := Lib.hid hrow
      replace hj := Lib.hid hj
      go_upto_region 5 with (fail)
      change Code.wp _ _ _ _ (wr.alloc (.cells #[.int .i64 q.m, .int .i64 (j : Int), .int .i64 q.a] 60))
      generalize hv1 : wr.alloc (.cells #[.int .i64 q.m, .int .i64 (j : Int), .int .i64 q.a] 60) = v1 at *
      have d1 : v1.cell? ⟨wr.heap.size, 1, none⟩ = some (.int .i64 (j : Int)) := obj_cell hbx rfl
      have d2 : v1.cell? ⟨wr.heap.size, 2, none⟩ = some (.int .i64 q.a) := obj_cell hbx rfl
      have hbl1 := obj_lt hbx
      have x0 : v1.cell? ⟨w.heap.size, j, none⟩ = some (v j) := obj_cell hC1.obj (c8_get v hj8)
      have hgl := obj_lt hC1.obj
      have hC2 := hC1.at (w' := (v1.alloc (.cells #[.int .i64 q.a] 2)).drew) (fun y hy => Below.heap_alloc _ _ _ hy)
      have hxa : ((v1.alloc (.cells #[.int .i64 q.a] 2)).drew).cell? ((⟨v1.heap.size, 0, none⟩ : Addr).add 0) = some (.int .i64 q.a) := obj_cell (heap_alloc_new v1 (.cells #[.int .i64 q.a] 2)) rfl
      have hll := colP_len (ps.take k) j
      have htk : (ps.take k).length ≤ k := List.length_take_le _ _
      have hv1s : w.heap.size ≤ v1.heap.size := hB1.size
      obtain ⟨v', w', hrun, hO, hG, hL⟩ := appX_run _ w.heap.size (v j) _ (hC2.own j hj8) (by show w.heap.size ≤ (v1.alloc _).heap.size; simp; omega) _ _ hxa (by omega)
      have hC3 := hC2.more hj8 hO hG hL
      have hfin : ESt w ps (k + 1) (upd v j v') (w'.setCell ⟨w.heap.size, j, none⟩ v') := by
        refine ⟨?_, ?_⟩
        · rw [List.take_add_one, hq]
          show CS _ _ _ (colP (ps.take k ++ [q])) _
          rw [colP_snoc _ q j hj.out]
          exact hC3
        · exact (((hB1.alloc hv1s _).drew).grown hG (by show w.heap.size ≤ (v1.alloc _).heap.size; simp; omega) (fun y hy => ((hC2.own j hj8).lt y hy).1)).setCell (Nat.le_refl _) _
      have hgs : w'.heap[w.heap.size]? = some (.cells (c8 v) 118 (0, 0)) := (hG.block _ (by show w.heap.size < (v1.alloc _).heap.size; simp; omega) (fun e => by
        obtain ⟨cs, hcs⟩ := (hC2.own j hj8).obj e.symm
        rw [hC2.obj] at hcs
        simp at hcs)).trans hC2.obj
      have k0 : w'.cell? ⟨w.heap.size, j, none⟩ = some (v j) := obj_cell hgs (c8_get v hj8)
      have z0 := obj_free hgs j
      have e1 : w'.cell? ⟨wr.heap.size, 1, none⟩ = some (.int .i64 (j : Int)) := obj_cell ((hG.block _ (by show wr.heap.size < (v1.alloc _).heap.size; simp; omega) (fun e => by
        obtain ⟨cs, hcs⟩ := (hC1.own j hj8).obj e.symm
        rw [hbx] at hcs
        simp at hcs)).trans ((Below.heap_alloc v1 _ _ hbl1).trans hbx)) rfl
      have x0a : (v1.alloc (.cells #[.int .i64 q.a] 2)).cell? ⟨w.heap.size, j, none⟩ = some (v j) := obj_cell hC2.obj (c8_get v hj8)
      obtain ⟨pv, cv, hvj⟩ := (hC2.own j hj8).shape
      obtain ⟨pv', cv', hvj'⟩ := hO.shape
      rw [hvj] at hrun x0 k0 x0a
      rw [hvj'] at hrun hfin
      generalize (colP (ps.take k) j).length = n1 at *
      generalize (colP (ps.take k) j ++ [q.a]).length = n2 at *
      replace hv1 := Lib.hid hv1
      replace hbx := Lib.hid hbx
      replace hC1 := Lib.hid hC1
      replace hC2 := Lib.hid hC2
      replace hC3 := Lib.hid hC3
      replace hB1 := Lib.hid hB1
      replace hO := Lib.hid hO
      replace hG := Lib.hid hG
      replace hL := Lib.hid hL
      replace hgs := Lib.hid hgs
      replace hrun := Lib.hid hrun
      replace hfin := Lib.hid hfin
      replace hvj := Lib.hid hvj
      replace hvj' := Lib.hid hvj'
      replace hxa := Lib.hid hxa
      go_region_law (refine step_appR rfl (.tmp 19) (.tmp 22) 56 56 rfl _ _ _ _ rfl rfl hrun.out ?_)
      all_goals
        go_wp2_with fail
        go_roundw
        case rel => exact ⟨k + 1, _, by omega, by go_num, hfin⟩
        case measure => simp [intOf]; omega
    · obtain rfl : k = len := by omega
      have hkz : ¬ (k : Int) < (k : Int) := by omega
      have hT := hS.out
      have htk : ps.take k = ps := List.take_of_length_le (by rw [h.out.1]; omega)
      have hC := hT.cs
      rw [htk] at hC
      have hsl : ∀ c, ∃ p m, c < 8 → v c = .slice p (colP ps c).length m := fun c => by
        by_cases hc : c < 8
        · obtain ⟨p, m, e⟩ := (hC.own c hc).shape
          exact ⟨p, m, fun _ => e⟩
        · exact ⟨none, 0, fun h => absurd h hc⟩
      obtain ⟨p', hp'⟩ := Classical.skolem.1 hsl
      obtain ⟨m', hm'⟩ := Classical.skolem.1 hp'
      have x0 : wr.cell? ⟨w.heap.size, 0, none⟩ = some (.slice (p' 0) (colP ps 0).length (m' 0)) := (obj_cell hC.obj (c8_get v (c := 0) (by omega))).trans (by rw [hm' 0 (by omega)])
      have x1 : wr.cell? ⟨w.heap.size, 1, none⟩ = some (.slice (p' 1) (colP ps 1).length (m' 1)) := (obj_cell hC.obj (c8_get v (c := 1) (by omega))).trans (by rw [hm' 1 (by omega)])
      have x2 : wr.cell? ⟨w.heap.size, 2, none⟩ = some (.slice (p' 2) (colP ps 2).length (m' 2)) := (obj_cell hC.obj (c8_get v (c := 2) (by omega))).trans (by rw [hm' 2 (by omega)])
      have x3 : wr.cell? ⟨w.heap.size, 3, none⟩ = some (.slice (p' 3) (colP ps 3).length (m' 3)) := (obj_cell hC.obj (c8_get v (c := 3) (by omega))).trans (by rw [hm' 3 (by omega)])
      have x4 : wr.cell? ⟨w.heap.size, 4, none⟩ = some (.slice (p' 4) (colP ps 4).length (m' 4)) := (obj_cell hC.obj (c8_get v (c := 4) (by omega))).trans (by rw [hm' 4 (by omega)])
      have x5 : wr.cell? ⟨w.heap.size, 5, none⟩ = some (.slice (p' 5) (colP ps 5).length (m' 5)) := (obj_cell hC.obj (c8_get v (c := 5) (by omega))).trans (by rw [hm' 5 (by omega)])
      have x6 : wr.cell? ⟨w.heap.size, 6, none⟩ = some (.slice (p' 6) (colP ps 6).length (m' 6)) := (obj_cell hC.obj (c8_get v (c := 6) (by omega))).trans (by rw [hm' 6 (by omega)])
      have x7 : wr.cell? ⟨w.heap.size, 7, none⟩ = some (.slice (p' 7) (colP ps 7).length (m' 7)) := (obj_cell hC.obj (c8_get v (c := 7) (by omega))).trans (by rw [hm' 7 (by omega)])
      have hsum := sums_any p' (fun c => (colP ps c).length) m' (colP ps) wr (fun c hc => by
        have ho := hC.own c hc
        rw [hm' c hc] at ho
        refine ho.seq (fun x hx => ?_) (by have := colP_len ps c; have := h.out.1; omega)
        obtain ⟨q, hq, rfl⟩ := colP_mem hx
        exact (h.out.2.1 q hq).2.2)
      have hblw := hT.blw
      have hev := evenB_eq ps
      unfold c8 at hsum
      replace hT := Lib.hid hT
      replace hC := Lib.hid hC
      replace hsl := Lib.hid hsl
      replace hm' := Lib.hid hm'
      replace hp' := Lib.hid hp'
      replace hblw := Lib.hid hblw
      replace hsum := Lib.hid hsum
      replace hev := Lib.hid hev
      go_wp2_with fail
      with_reducible refine hsum.out.mono ?_
      rintro e w1 ⟨rfl, hb1⟩
      have hfb : ∀ o, Below w.heap.size w (w1.alloc o) := fun o => (hblw.out.trans (hb1.mono hblw.out.size)).alloc (by have := hblw.out.size; have := hb1.size; omega) o
      replace hb1 := Lib.hid hb1
      replace hfb := Lib.hid hfb
      unfold r8
      cases hfc : fitC (colP ps) with
      | true =>
        rw [hfc] at hev
        simp only [if_true]
        have hq := fun w => eqrow_run (sumR (colP ps)) (fun _ => 0) w
        have hz : eqR (sumR (colP ps)) (fun _ => 0) = allZ (sumR (colP ps)) := rfl
        rw [hz] at hq
        unfold r8 at hq
        replace hz := Lib.hid hz
        go_wp2_with fail
        go_ret
        exact ⟨retL_bool (by rw [hev.out]; simp), hfb.out _⟩
      | false =>
        rw [hfc] at hev
        simp only [Bool.false_eq_true, if_false]
        go_wp2_with fail
        go_ret
        exact ⟨retL_bool (by rw [hev.out]; rfl), hfb.out _⟩
end Go.Proofs.YtiehbbhjpcnbnaaGreat
