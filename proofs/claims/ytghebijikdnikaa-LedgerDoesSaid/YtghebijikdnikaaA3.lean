/- The contracts of money's Add, Sub, Size, magnitude, signed, halves, halfUp, product. -/
import Derived.Test.YtghebijikdnikaaA2
import Derived.Laws.BitsAllLaws
namespace Go.Proofs.Ytghebijikdnikaa
open Go.RowKit

set_option maxHeartbeats 400000 in
theorem add_any (a b : Int) (w : World) (a0 : -9223372036854775808 ≤ a) (a1 : a ≤ 9223372036854775807) (b0 : -9223372036854775808 ≤ b) (b1 : b ≤ 9223372036854775807) :
    Calls Try.prog 56 #[.int .i64 a, .int .i64 b] w fun e w' => e = .returned (.tuple #[.int .i64 (fitV (a + b)), .int .i64 (fitE (a + b))]) ∧ Below w.heap.size w w' := by
  go_enter Try.func56, Try.ntmps56
  go_wp2_with fail
  refine (widen_w a _ a0 a1).mono ?_
  rintro e w1 ⟨rfl, hb1⟩
  go_wp2_with fail
  refine (widen_w b _ b0 b1).mono ?_
  rintro e w2 ⟨rfl, hb2⟩
  go_wp2_with fail
  refine (plus_w a b _).mono ?_
  rintro e w3 ⟨rfl, hb3⟩
  go_wp2_with fail
  refine (amount_w (a + b) _ (by omega) (by omega)).mono ?_
  rintro e w4 ⟨rfl, hb4⟩
  go_wp2_with fail
  go_ret2
  exact ⟨rfl, ((hb1.trans (hb2.mono hb1.size)).trans (hb3.mono (Nat.le_trans hb1.size hb2.size))).trans (hb4.mono (Nat.le_trans (Nat.le_trans hb1.size hb2.size) hb3.size))⟩

/-- a number without its sign -/
def absI (a : Int) : Int := if a < 0 then -a else a
theorem absI_bd (a : Int) (a0 : -9223372036854775808 ≤ a) (a1 : a ≤ 9223372036854775807) : 0 ≤ absI a ∧ absI a ≤ 9223372036854775808 := by unfold absI; split <;> omega

theorem mag_neg (a : Int) (a0 : -9223372036854775808 ≤ a) (hn : a < 0) : IntKind.u64.wrap (-IntKind.u64.wrap a) = absI a := by
  unfold absI; rw [if_pos hn, IntKind.wrap_u64, IntKind.wrap_u64]; omega
theorem mag_pos (a : Int) (hn : ¬ a < 0) : a = absI a := by unfold absI; rw [if_neg hn]
theorem ret_u64 {a b : Int} (h : a = b) : Ending.returned (.int .u64 a) = .returned (.int .u64 b) := by rw [h]
theorem ret_two {a b c d : Int} {k l : IntKind} (h : a = b) (h' : c = d) : Ending.returned (.tuple #[.int k a, .int l c]) = .returned (.tuple #[.int k b, .int l d]) := by rw [h, h']

theorem fit_no (x : Int) (h : x < -9223372036854775808 ∨ 9223372036854775807 < x) : 0 = fitV x ∧ 3 = fitE x := by
  unfold fitV fitE; rw [if_neg (by omega), if_neg (by omega)]; exact ⟨rfl, rfl⟩
theorem fit_yes (x : Int) (h0 : -9223372036854775808 ≤ x) (h1 : x ≤ 9223372036854775807) : x = fitV x ∧ 0 = fitE x := by
  unfold fitV fitE; rw [if_pos ⟨h0, h1⟩, if_pos ⟨h0, h1⟩]; exact ⟨rfl, rfl⟩
theorem neg_wrap (n : Int) (n0 : 0 ≤ n) (hn : n ≤ 9223372036854775808) : wrap64 (IntKind.u64.wrap (-n)) = -n := by
  simp only [wrap64, IntKind.wrap_u64]; omega
theorem and_mask (n : Int) (n0 : 0 ≤ n) (n1 : n < 18446744073709551616) : bits BinOp.and IntKind.u64 n 4294967295 = n % 4294967296 := by
  rw [u64_and n 4294967295 n0 n1 (by omega) (by omega)]
  obtain ⟨N, rfl⟩ := Int.eq_ofNat_of_zero_le n0
  have := Nat.and_two_pow_sub_one_eq_mod N 32
  simp only [Int.toNat_natCast]
  show ((N &&& 4294967295 : Nat) : Int) = _
  rw [show (4294967295 : Nat) = 2 ^ 32 - 1 from rfl, this]
  omega
theorem up_wh (n : Int) (n0 : 0 ≤ n) (n1 : n < 18446744073709551616) : n / 4294967296 = wh (n * 4294967296) := by unfold wh; omega
theorem up_wl (n : Int) : IntKind.u64.wrap (n * 4294967296) = wl (n * 4294967296) := by unfold wl; rw [IntKind.wrap_u64]
end Go.Proofs.Ytghebijikdnikaa
