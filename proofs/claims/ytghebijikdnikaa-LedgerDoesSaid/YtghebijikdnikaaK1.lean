/- The array of checks of single bytes: the contract of checksOfBytes. -/
import Derived.Test.YtghebijikdnikaaK0
namespace Go.Proofs.Ytghebijikdnikaa
open Go.RowKit
set_option linter.unusedVariables false
/-- the array's cells when k of them are laid -/
def tabCells : Nat → Array Value
  | 0 => Array.replicate 256 (.int .u32 0)
  | k + 1 => (tabCells k).setIfInBounds k (.int .u32 ((halves 8 k : Nat) : Int))
theorem tabCells_zero : tabCells 0 = Array.replicate 256 (.int .u32 0) := rfl
theorem tabCells_succ (k : Nat) : tabCells (k + 1) = (tabCells k).setIfInBounds k (.int .u32 ((halves 8 k : Nat) : Int)) := rfl
theorem tabCells_size : ∀ k, (tabCells k).size = 256
  | 0 => by rw [tabCells_zero, Array.size_replicate]
  | k + 1 => by rw [tabCells_succ, Array.size_setIfInBounds, tabCells_size k]
theorem tabCells_at : ∀ (k i : Nat), i < k → k ≤ 256 → (tabCells k)[i]? = some (.int .u32 ((halves 8 i : Nat) : Int))
  | k + 1, i, hi, hk => by
    have hs := tabCells_size k
    rw [tabCells_succ, Array.getElem?_setIfInBounds]
    by_cases e : k = i
    · subst e; rw [if_pos rfl, if_pos (by omega)]
    · rw [if_neg e]; exact tabCells_at k i (by omega) (by omega)
theorem tabCells_some (k i : Nat) (hi : i < 256) : ∃ v, (tabCells k)[i]? = some v := ⟨_, Array.getElem?_eq_getElem (by rw [tabCells_size]; exact hi)⟩

theorem and_one (c : Nat) (h : c < 4294967296) : bits .and .u32 (c : Int) 1 = ((c % 2 : Nat) : Int) := by
  rw [← Nat.and_one_is_mod]; exact u32_and_nat c 1 h (by omega)

end Go.Proofs.Ytghebijikdnikaa
