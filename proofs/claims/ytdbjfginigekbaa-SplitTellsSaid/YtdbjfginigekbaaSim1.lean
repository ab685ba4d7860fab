/-
  Runs of operations under two programs that share their tables and part only in their functions: an operation that never asks for a function answers alike. Conditions: none.
-/
import Derived.Calls
namespace Go.Proofs.Ytdbjfginigekbaa
open Go

/-- A halt that leaves the goroutine running or ends the run. -/
def Mild : Halt → Prop
  | .panic _ | .stuck _ | .unsupported _ => True
  | _ => False

/-- The tree asks for nothing of the program but its tables, and halts mildly. -/
def Tab (p q : Program) {α : Type} : Sem α → Prop
  | .pure _ => True
  | .load _ _ k => ∀ v, Tab p q (k v)
  | .store _ _ _ k => Tab p q k
  | .new _ k => ∀ n, Tab p q (k n)
  | .shape _ k => ∀ s, Tab p q (k s)
  | .freeze _ _ k => Tab p q k
  | .frozen _ k => ∀ b, Tab p q (k b)
  | .getObj _ k => ∀ o, Tab p q (k o)
  | .setObj _ _ k => Tab p q k
  | .choose _ k => ∀ n, Tab p q (k n)
  | .sys _ _ => False
  | .program k => k p = k q ∧ Tab p q (k p)
  | .mark _ k => Tab p q k
  | .halt h => Mild h

theorem Tab.bind {p q : Program} {α β : Type} {s : Sem α} {f : α → Sem β} (hs : Tab p q s) (hf : ∀ a, Tab p q (f a)) : Tab p q (s >>= f) := by
  show Tab p q (s.bind f)
  induction s with
  | pure a => exact hf a
  | load m a k ih => intro v; exact ih v (hs v)
  | store m a v k ih => exact ih hs
  | new o k ih => intro n; exact ih n (hs n)
  | shape r k ih => intro n; exact ih n (hs n)
  | freeze a n k ih => exact ih hs
  | frozen a k ih => intro n; exact ih n (hs n)
  | getObj r k ih => intro n; exact ih n (hs n)
  | setObj r o k ih => exact ih hs
  | choose r k ih => intro n; exact ih n (hs n)
  | sys c k ih => exact hs.elim
  | program k ih => exact ⟨by show (k p).bind f = (k q).bind f; rw [hs.1], ih p hs.2⟩
  | mark m k ih => exact ih hs
  | halt h => exact hs

section same
variable (T : Tables) (f f' : Array Func)

theorem byteOfCell_same : ∀ d t off, byteOfCell ⟨T, f⟩ d t off = byteOfCell ⟨T, f'⟩ d t off := by
  intro d
  induction d with
  | zero => intro t off; rfl
  | succ d ih => intro t off; simp only [byteOfCell, ih]; rfl

theorem cellHolding_same : ∀ d t off, cellHolding ⟨T, f⟩ d t off = cellHolding ⟨T, f'⟩ d t off := by
  intro d
  induction d with
  | zero => intro t off; rfl
  | succ d ih => intro t off; simp only [cellHolding, ih]; rfl

theorem plainCell_same : ∀ d t off, plainCell ⟨T, f⟩ d t off = plainCell ⟨T, f'⟩ d t off := by
  intro d
  induction d with
  | zero => intro t off; rfl
  | succ d ih => intro t off; simp only [plainCell, ih]; rfl

theorem tight_same : ∀ d t, tight ⟨T, f⟩ d t = tight ⟨T, f'⟩ d t := by
  intro d
  induction d with
  | zero => intro t; rfl
  | succ d ih => intro t; simp only [tight, ih]; rfl

theorem cellOfByte_same : ∀ d t off, cellOfByte ⟨T, f⟩ d t off = cellOfByte ⟨T, f'⟩ d t off := by
  intro d
  induction d with
  | zero => intro t off; rfl
  | succ d ih => intro t off; simp only [cellOfByte, ih]; rfl

theorem seenCells_same (c : Array Value) (e : TypeId) : ∀ n x s, seenCells ⟨T, f⟩ c e n x s = seenCells ⟨T, f'⟩ c e n x s := by
  intro d
  induction d with
  | zero => intro x s; rfl
  | succ d ih => intro x s; simp only [seenCells, ih, cellHolding_same T f f']; rfl

theorem seen_same (w : World) (a : Addr) (u : TypeId) (k : Addr) (b : Bool) : w.seen ⟨T, f⟩ a u k b = w.seen ⟨T, f'⟩ a u k b := by
  simp only [World.seen, plainCell_same T f f', byteOfCell_same T f f', seenCells_same T f f']; rfl

theorem viewLoad_same (w : World) (a : Addr) (u : TypeId) (k : Addr) (b : Bool) : w.viewLoad ⟨T, f⟩ a u k b = w.viewLoad ⟨T, f'⟩ a u k b := by
  simp only [World.viewLoad, seen_same T f f']

theorem viewStore_same (w : World) (a : Addr) (u : TypeId) (k : Addr) (v : Value) (b : Bool) : w.viewStore ⟨T, f⟩ a u k v b = w.viewStore ⟨T, f'⟩ a u k v b := by
  simp only [World.viewStore, seen_same T f f', tight_same T f f']; rfl

theorem farLoad_same (w : World) (a : Addr) (b : Bool) : w.farLoad ⟨T, f⟩ a b = w.farLoad ⟨T, f'⟩ a b := by
  simp only [World.farLoad, viewLoad_same T f f']

theorem farStore_same (w : World) (a : Addr) (v : Value) (b : Bool) : w.farStore ⟨T, f⟩ a v b = w.farStore ⟨T, f'⟩ a v b := by
  simp only [World.farStore, viewStore_same T f f']

theorem noCell_mild (w : World) (a : Addr) (s : String) : Mild (w.noCell a s) := by
  unfold World.noCell; split <;> exact trivial

theorem farLoad_mild {p : Program} {w : World} {a : Addr} {b : Bool} {h : Halt} (e : w.farLoad p a b = .error h) : Mild h := by
  unfold World.farLoad at e
  split at e
  · split at e <;> simp at e; subst e; exact trivial
  · simp at e; subst e; exact noCell_mild _ _ _

theorem farStore_mild {p : Program} {w : World} {a : Addr} {v : Value} {b : Bool} {h : Halt} (e : w.farStore p a v b = .error h) : Mild h := by
  unfold World.farStore at e
  split at e
  · split at e <;> simp at e; subst e; exact trivial
  · simp at e; subst e; exact noCell_mild _ _ _

/-- ALIKE UNDER BOTH. -/
theorem Tab.run {α : Type} {s : Sem α} (h : Tab ⟨T, f⟩ ⟨T, f'⟩ s) : ∀ w, s.run ⟨T, f⟩ w = s.run ⟨T, f'⟩ w ∧ ∀ e w', s.run ⟨T, f'⟩ w = .halt e w' → Mild e := by
  induction s with
  | pure a => intro w; exact ⟨rfl, fun e w' h => by simp [Sem.run] at h⟩
  | load m a k ih =>
    intro w
    simp only [Sem.run, farLoad_same T f f']
    split
    · exact ih _ (h _) w
    · split
      · exact ih _ (h _) w
      · next e => exact ⟨rfl, fun e' w' h' => by cases h'; exact farLoad_mild e⟩
  | store m a v k ih =>
    intro w
    cases v <;> simp only [Sem.run, farStore_same T f f'] <;> first | exact ⟨trivial, fun e w' h' => by cases h'; exact trivial⟩ | skip
    all_goals
      split
      · split
        · exact ⟨rfl, fun e' w' h' => by cases h'; exact trivial⟩
        · exact ih h _
      · split
        · exact ih h _
        · next e => exact ⟨rfl, fun e' w' h' => by cases h'; exact farStore_mild e⟩
  | new o k ih => intro w; exact ih _ (h _) _
  | shape r k ih => intro w; exact ih _ (h _) _
  | freeze a n k ih => intro w; exact ih h _
  | frozen a k ih => intro w; exact ih _ (h _) _
  | getObj r k ih =>
    intro w
    simp only [Sem.run]
    split
    · exact ⟨rfl, fun e' w' h' => by cases h'; exact trivial⟩
    · exact ih _ (h _) _
    · exact ⟨rfl, fun e' w' h' => by cases h'; exact trivial⟩
  | setObj r o k ih =>
    intro w
    simp only [Sem.run]
    split
    · exact ⟨rfl, fun e' w' h' => by cases h'; exact trivial⟩
    · exact ih h _
    · exact ⟨rfl, fun e' w' h' => by cases h'; exact trivial⟩
  | choose q k ih =>
    intro w
    simp only [Sem.run]
    split
    · exact ih _ (h _) _
    · exact ih _ (h _) _
  | sys c k ih => exact h.elim
  | program k ih =>
    intro w
    simp only [Sem.run]
    rw [← h.1]
    exact ih _ h.2 w
  | mark m k ih => intro w; exact ih h _
  | halt e => intro w; exact ⟨rfl, fun e' w' h' => by cases h'; exact h⟩

end same
end Go.Proofs.Ytdbjfginigekbaa
