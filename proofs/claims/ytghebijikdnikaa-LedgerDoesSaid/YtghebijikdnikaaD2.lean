/- The contract of math/bits.Div64. -/
import Derived.Test.YtghebijikdnikaaD1
import Derived.Test.YtghebijikdnikaaA3
import Derived.Deep.DeepCutAuto
import Derived.Deep.CutBlock
import Derived.Deep.QuietTactic
import Derived.BigQuiet
namespace Go.Proofs.Ytghebijikdnikaa
open Go.RowKit
set_option linter.unusedVariables false
theorem digit_leave {u Y yh yl d q r : Int} (eY : Y = yh * 4294967296 + yl) (G : Guess u yh yl d q r) (hq : q ≤ 4294967296) (d0 : 0 ≤ d) (d1 : d < 4294967296) (hy0 : 0 ≤ yl) (hy1 : yl < 4294967296) (hr : 4294967296 ≤ r) (Y0 : 0 < Y) (uY : u < Y) : Digit u Y d q := by
  have h1 := G.leave hq d0 hy0 hy1 hr
  have h2 := G.up
  rw [← eY] at h1 h2
  exact Digit.mk' G.q0 Y0 uY d1 h1 h2
theorem digit_done {u Y yh yl d q r : Int} (eY : Y = yh * 4294967296 + yl) (G : Guess u yh yl d q r) (d1 : d < 4294967296) (h : q * yl ≤ 4294967296 * r + d) (Y0 : 0 < Y) (uY : u < Y) : Digit u Y d q := by
  have h1 := G.done h
  have h2 := G.up
  rw [← eY] at h1 h2
  exact Digit.mk' G.q0 Y0 uY d1 h1 h2
theorem guess_next {u Y yh yl d q r : Int} (eY : Y = yh * 4294967296 + yl) (G : Guess u yh yl d q r) (u0 : 0 ≤ u) (d0 : 0 ≤ d) (hyh : 0 ≤ yh) (Y0 : 0 < Y) (uY : u < Y) (d1 : d < 4294967296) (h : 4294967296 ≤ q ∨ 4294967296 * r + d < q * yl) :
    Guess u yh yl d (q - 1) (r + yh) ∧ q - 1 ≤ 4294967296 := G.next u0 d0 hyh (by rw [← eY]; exact Y0) (by rw [← eY]; exact uY) d1 h
theorem small_mul {q yl : Int} (q0 : 0 ≤ q) (q1 : q < 4294967296) (y0 : 0 ≤ yl) (y1 : yl < 4294967296) : 0 ≤ q * yl ∧ q * yl < 18446744073709551616 := by
  refine ⟨Int.mul_nonneg q0 y0, ?_⟩
  have h1 : q * yl ≤ 4294967295 * yl := Int.mul_le_mul_of_nonneg_right (by omega) y0
  omega

theorem wrap_u64' (a : Int) (a0 : 0 ≤ a) (a1 : a < 18446744073709551616) : IntKind.u64.wrap a = a := by rw [IntKind.wrap_u64]; omega
theorem rest_bd {u Y d q m : Int} (D : Digit u Y d q) (hm : m = u * 4294967296 + d - q * Y) (Y1 : Y < 18446744073709551616) :
    0 ≤ m ∧ m < Y ∧ IntKind.u64.wrap (IntKind.u64.wrap (IntKind.u64.wrap (u * 4294967296) + d) - IntKind.u64.wrap (q * Y)) = m := by
  have h1 := D.lo
  have h2 := D.up
  refine ⟨by omega, by omega, ?_⟩
  simp only [IntKind.wrap_u64]
  omega
theorem first_bd (u yh yl d : Int) (u0 : 0 ≤ u) (u1 : u < 18446744073709551616) (hy1 : 2147483648 ≤ yh) (hy2 : yh < 4294967296) (hy0 : 0 ≤ yl) (hy0' : yl < 4294967296) (hu : u < yh * 4294967296 + yl) (d1 : d < 4294967296) :
    ∃ g r : Int, u / yh = g ∧ IntKind.u64.wrap (u - IntKind.u64.wrap (g * yh)) = r ∧ Guess u yh yl d g r ∧ r < 4294967296 := by
  refine ⟨_, _, rfl, rfl, ?_⟩
  have G := Guess.first u yh yl d u0 hy1 hy0 hy0' hu d1
  have e : IntKind.u64.wrap (u - IntKind.u64.wrap (u / yh * yh)) = u - u / yh * yh := by
    have a1 := G.r0
    have a2 : 0 ≤ u / yh * yh := Int.mul_nonneg G.q0 (by omega)
    simp only [IntKind.wrap_u64]
    omega
  rw [e]
  refine ⟨G, ?_⟩
  have hl := Int.emod_lt_of_pos u (by omega : 0 < yh)
  have he := Int.emod_def u yh
  have hc : yh * (u / yh) = u / yh * yh := Int.mul_comm _ _
  omega

/-- what Div64 returns: the quotient; of what is left nothing is said -/
def Quot64 (q : Int) (w : World) (e : Ending) (w' : World) : Prop := (∃ r : Int, e = .returned (.tuple #[.int .u64 q, .int .u64 r])) ∧ ∃ n, w' = w.drewN n

end Go.Proofs.Ytghebijikdnikaa
