/- The reference's ledger in memory; the contracts of its Has, Get, Out. -/
import Derived.Test.YtljclgphgojphaaR8
import Derived.Test.YtljclgphgojphaaB2
import Derived.Test.YtljclgphgojphaaW0
import Derived.Test.YtljclgphgojphaaLG1
import Derived.Laws.CopyOwn
namespace Go.Proofs.Ytljclgphgojphaa
open Go.RowKit
set_option linter.unusedVariables false

/-- a row of amounts -/
def IR (w : World) (g : Nat) (f : Nat → Int) (n : Nat) : Prop := ∃ cs, w.heap[g]? = some (.cells cs 2 (0, 0)) ∧ ∀ i, i < n → cs[i]? = some (.int .i64 (f i))
theorem IR.lt {w : World} {g n : Nat} {f : Nat → Int} (h : IR w g f n) : g < w.heap.size := by obtain ⟨cs, h, _⟩ := h; exact obj_lt h
theorem IR.cell {w : World} {g n i : Nat} {f : Nat → Int} (h : IR w g f n) (hi : i < n) : w.cell? ⟨g, i, none⟩ = some (.int .i64 (f i)) := by obtain ⟨cs, h1, h2⟩ := h; exact obj_cell h1 (h2 i hi)
theorem IR.free {w : World} {g n : Nat} {f : Nat → Int} (h : IR w g f n) (i : Nat) : w.frozen? ⟨g, i, none⟩ = false := by obtain ⟨cs, h1, h2⟩ := h; exact obj_free h1 i
theorem IR.at {w w' : World} {g n : Nat} {f : Nat → Int} (h : IR w g f n) (hb : w'.heap[g]? = w.heap[g]?) : IR w' g f n := by obtain ⟨cs, h1, h2⟩ := h; exact ⟨cs, hb.trans h1, h2⟩
theorem IR.set {w : World} {g n j : Nat} {f : Nat → Int} (h : IR w g f n) (hj : j < n) (x : Int) : IR (w.setCell ⟨g, j, none⟩ (.int .i64 x)) g (upd f j x) n := by
  obtain ⟨cs, h1, h2⟩ := h
  refine ⟨_, obj_set h1 j _, fun i hi => ?_⟩
  by_cases e : i = j
  · subst e
    have := (Array.getElem?_eq_some_iff.1 (h2 i hi)).1
    rw [upd_same, Array.getElem?_setIfInBounds_self_of_lt this]
  · rw [upd_other _ _ e, Array.getElem?_setIfInBounds_ne (Ne.symm e)]
    exact h2 i hi
theorem IR.congr {w : World} {g n : Nat} {f k : Nat → Int} (h : IR w g f n) (e : ∀ i, i < n → f i = k i) : IR w g k n := by obtain ⟨cs, h1, h2⟩ := h; exact ⟨cs, h1, fun i hi => by rw [← e i hi]; exact h2 i hi⟩
section
variable {P : Nat → Prop} {w w' : World} {b gB cB gN cN : Nat} {l : LM} {g cp : Nat → Nat}
/-- blocks of other kinds are others -/
theorem ty_ne {w : World} {x y : Nat} {cs ds : Array Value} {t u : TypeId} {fr fs : Nat × Nat} (hx : w.heap[x]? = some (.cells cs t fr)) (hy : w.heap[y]? = some (.cells ds u fs)) (h : t ≠ u) : x ≠ y := by
  rintro rfl
  rw [hx] at hy
  injection hy with hy
  injection hy with _ hy _
  exact h hy
end
end Go.Proofs.Ytljclgphgojphaa
