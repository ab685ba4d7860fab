/- The contracts of the reference's Cmp and Fit. -/
import Derived.Test.YtljclgphgojphaaR4
namespace Go.Proofs.Ytljclgphgojphaa
open Go.RowKit
set_option linter.unusedVariables false

theorem sign_of {neg : Bool} {len : Nat} {ds : List Int} {N : Int} (hl : ds.length = len) (hd : Digs (dg ds)) (hN : sgB neg (val ds) = N) (hz : (ds = [] → neg = false) ∧ (0 < len → dg ds (len - 1) ≠ 0)) :
    (len = 0 ∧ N = 0) ∨ (0 < len ∧ neg = true ∧ N < 0) ∨ (0 < len ∧ neg = false ∧ 0 < N) := by
  by_cases h0 : len = 0
  · left
    subst h0
    obtain rfl : ds = [] := List.eq_nil_of_length_eq_zero hl
    rw [val_nil] at hN
    refine ⟨rfl, ?_⟩
    rw [← hN]
    cases neg <;> rfl
  · right
    have hne := hz.2 (by omega)
    have hpos : 0 < val ds := by
      apply Int.not_le.1
      intro hle
      have h1 := dv_zero hd (m := len - 1) (n := ds.length) (by show val ds < _; have := pw_pos (len - 1); omega) (len - 1) (Nat.le_refl _) (by omega)
      exact hne h1
    rw [← hN]
    unfold sgB
    cases neg
    · exact .inr ⟨by omega, rfl, hpos⟩
    · refine .inl ⟨by omega, rfl, ?_⟩
      simp
      exact hpos

end Go.Proofs.Ytljclgphgojphaa
