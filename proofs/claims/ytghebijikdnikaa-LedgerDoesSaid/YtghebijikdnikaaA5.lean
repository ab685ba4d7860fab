/- The contracts of money's MulDiv and Mul. -/
import Derived.Test.YtghebijikdnikaaA4
import Derived.Test.YtghebijikdnikaaD2
namespace Go.Proofs.Ytghebijikdnikaa
open Go.RowKit
set_option linter.unusedVariables false

theorem below_drewN {B : Nat} {a w : World} (h : Below B a w) (n : Nat) : Below B a (w.drewN n) := ⟨h.os, h.tape, h.output, h.size, h.block⟩

/-- the whole number about a times b by c, down or up -/
def muldiv (a b c : Int) (up : Bool) : Int := if up then -(-(a * b) / c) else a * b / c

theorem neg_div (P c : Int) (hc : 1 ≤ c) : -(-P / c) = (P + (c - 1)) / c := by
  have h1 := Int.emod_nonneg (-P) (by omega : c ≠ 0)
  have h2 := Int.emod_lt_of_pos (-P) (by omega : 0 < c)
  have h3 := Int.emod_def (-P) c
  symm
  refine div_of (r := P + (c - 1) + -P / c * c) ?_ ?_ ?_
  · have : c * (-P / c) = -P / c * c := Int.mul_comm _ _
    omega
  · have : c * (-P / c) = -P / c * c := Int.mul_comm _ _
    omega
  · rw [Int.neg_mul]; omega

theorem abs_mul (a b : Int) : absI a * absI b = if (decide (a < 0) != decide (b < 0)) then -(a * b) else a * b := by
  unfold absI
  by_cases ha : a < 0 <;> by_cases hb : b < 0 <;> simp [ha, hb, Int.neg_mul, Int.mul_neg]

theorem muldiv_eq (a b c : Int) (up below : Bool) (hc : 1 ≤ c) (hb : (decide (a < 0) != decide (b < 0)) = below) :
    muldiv a b c up = if below then -((absI a * absI b + if (up != below) then c - 1 else 0) / c) else (absI a * absI b + if (up != below) then c - 1 else 0) / c := by
  rw [abs_mul, hb]
  unfold muldiv
  cases up <;> cases below <;> simp
  · rw [← neg_div _ _ hc, Int.neg_neg, Int.neg_neg]
  · rw [neg_div _ _ hc]

theorem abs_mul_bd (a b : Int) (a0 : -9223372036854775808 ≤ a) (a1 : a ≤ 9223372036854775807) (b0 : -9223372036854775808 ≤ b) (b1 : b ≤ 9223372036854775807) :
    0 ≤ absI a * absI b ∧ absI a * absI b ≤ 85070591730234615865843651857942052864 := by
  obtain ⟨m0, m1⟩ := absI_bd a a0 a1
  obtain ⟨n0, n1⟩ := absI_bd b b0 b1
  refine ⟨Int.mul_nonneg m0 n0, ?_⟩
  have h1 : absI a * absI b ≤ 9223372036854775808 * absI b := Int.mul_le_mul_of_nonneg_right m1 n0
  omega

/-- with a sign -/
def sgn (n : Bool) (q : Int) : Int := if n then -q else q
theorem high_of (D : Int) (D0 : 0 ≤ D) (D1 : D < 170141183460469231731687303715884105728) : wh D * 18446744073709551616 + wl D = D := by unfold wh wl; omega
theorem high_over (D c : Int) (n : Bool) (c0 : 1 ≤ c) (h : c * 18446744073709551616 ≤ D) : 0 = fitV (sgn n (D / c)) ∧ 3 = fitE (sgn n (D / c)) := by
  have h1 : 18446744073709551616 ≤ D / c := Int.le_ediv_of_mul_le (by omega) (by omega)
  apply fit_no
  unfold sgn
  cases n <;> simp <;> omega
theorem quot_bd (D c : Int) (D0 : 0 ≤ D) (c0 : 1 ≤ c) (h : D < c * 18446744073709551616) : 0 ≤ D / c ∧ D / c < 18446744073709551616 :=
  ⟨Int.ediv_nonneg D0 (by omega), Int.ediv_lt_of_lt_mul (by omega) (by omega)⟩

theorem muldiv_one (a b : Int) : muldiv a b 1 false = a * b := by unfold muldiv; simp
end Go.Proofs.Ytghebijikdnikaa
