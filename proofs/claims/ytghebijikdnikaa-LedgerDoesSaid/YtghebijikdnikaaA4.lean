/- The contract of money's product. -/
import Derived.Test.YtghebijikdnikaaA3
namespace Go.Proofs.Ytghebijikdnikaa
open Go.RowKit
theorem mul_bd (a b : Int) (a0 : 0 ≤ a) (a1 : a ≤ 4294967295) (b0 : 0 ≤ b) (b1 : b ≤ 4294967295) : 0 ≤ a * b ∧ a * b ≤ 18446744065119617025 := by
  refine ⟨Int.mul_nonneg a0 b0, ?_⟩
  have h1 : a * b ≤ 4294967295 * b := Int.mul_le_mul_of_nonneg_right a1 b0
  omega
theorem wrap_u (a : Int) (a0 : 0 ≤ a) (a1 : a < 18446744073709551616) : IntKind.u64.wrap a = a := by rw [IntKind.wrap_u64]; omega
theorem plus_r (M N h l : Int) (w : World) (hh : h = wh N) (hl : l = wl N) :
    Calls Try.prog 40 #[.agg #[.int .u64 (wh M), .int .u64 (wl M)], .agg #[.int .u64 h, .int .u64 l]] w fun e w' => e = .returned (.agg #[.int .u64 (wh (M + N)), .int .u64 (wl (M + N))]) ∧ Below w.heap.size w w' := by
  subst hh; subst hl; exact plus_w M N w
def psum (p q r s : Int) : Nat → Int
  | 0 => 0
  | 1 => p
  | 2 => p + q * 4294967296
  | 3 => p + q * 4294967296 + r * 4294967296
  | _ => p + q * 4294967296 + r * 4294967296 + s * 18446744073709551616
theorem wh_small (p : Int) (p0 : 0 ≤ p) (p1 : p < 18446744073709551616) : 0 = wh p ∧ p = wl p := by unfold wh wl; omega
theorem wh_high (s : Int) (s0 : 0 ≤ s) (s1 : s < 18446744073709551616) : s = wh (s * 18446744073709551616) ∧ 0 = wl (s * 18446744073709551616) := by unfold wh wl; omega

theorem keep2 {W w3 : World} {o : Obj} {b off : Nat} {v : Value} (hb : Below (W.alloc o).heap.size (W.alloc o) w3) (hz : b < W.heap.size) (hc : W.cell? ⟨b, off, none⟩ = some v) (hd : W.frozen? ⟨b, off, none⟩ = false) :
    w3.cell? ⟨b, off, none⟩ = some v ∧ w3.frozen? ⟨b, off, none⟩ = false := by
  have h1 : Below W.heap.size W w3 := ((Below.refl _ _).alloc (Nat.le_refl _) o).trans (hb.mono (by simp))
  exact ⟨(h1.cell (p := ⟨b, off, none⟩) hz).trans hc, (h1.frozen (p := ⟨b, off, none⟩) hz).trans hd⟩
theorem split_mul (x y xh xl yh yl : Int) (hx : x = xh * 4294967296 + xl) (hy : y = yh * 4294967296 + yl) :
    xl * yl + xl * yh * 4294967296 + xh * yl * 4294967296 + xh * yh * 18446744073709551616 = x * y := by
  have e : (xh * 4294967296 + xl) * (yh * 4294967296 + yl) = (xh * yh) * 18446744073709551616 + (xh * yl) * 4294967296 + (xl * yh) * 4294967296 + xl * yl := by
    rw [Int.add_mul, Int.mul_add, Int.mul_add]
    have e1 : xh * 4294967296 * (yh * 4294967296) = xh * yh * 18446744073709551616 := by
      rw [Int.mul_assoc, Int.mul_left_comm 4294967296 yh, ← Int.mul_assoc]; rfl
    have e2 : xh * 4294967296 * yl = xh * yl * 4294967296 := by rw [Int.mul_assoc, Int.mul_comm 4294967296 yl, ← Int.mul_assoc]
    have e3 : xl * (yh * 4294967296) = xl * yh * 4294967296 := by rw [← Int.mul_assoc]
    rw [e1, e2, e3]
    omega
  rw [hx, hy, e]
  omega
end Go.Proofs.Ytghebijikdnikaa
