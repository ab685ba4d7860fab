/- The contracts of money's MulDiv and Mul. -/
import Derived.Test.YtbljdjgbjnhcgaaA4
import Derived.Test.YtbljdjgbjnhcgaaD2
namespace Go.Proofs.Ytbljdjgbjnhcgaa
open Go.RowKit
set_option linter.unusedVariables false

theorem below_drewN {B : Nat} {a w : World} (h : Below B a w) (n : Nat) : Below B a (w.drewN n) := ⟨h.os, h.tape, h.output, h.size, h.block⟩

/-- the whole number about a times b by c, down or up -/
def muldiv (a b c : Int) (up : Bool) : Int := if up then -(-(a * b) / c) else a * b / c

theorem neg_div (P c : Int) (hc : 1 ≤ c) : -(-P / c) = (P + (c - 1)) / c := by
  have h1 := Int.emod_nonneg (-P) (by omega : c ≠ 0)
  have h2 := Int.emod_lt_of_pos (-P) (by omega : 0 < c)
  have h3 := Int.emod_def (-P) c
  symm
  refine div_of (r := P + (c - 1) + -P / c * c) ?_ ?_ ?_
  · have : c * (-P / c) = -P / c * c := Int.mul_comm _ _
    omega
  · have : c * (-P / c) = -P / c * c := Int.mul_comm _ _
    omega
  · rw [Int.neg_mul]; omega

theorem abs_mul (a b : Int) : absI a * absI b = if (decide (a < 0) != decide (b < 0)) then -(a * b) else a * b := by
  unfold absI
  by_cases ha : a < 0 <;> by_cases hb : b < 0 <;> simp [ha, hb, Int.neg_mul, Int.mul_neg]

theorem muldiv_eq (a b c : Int) (up below : Bool) (hc : 1 ≤ c) (hb : (decide (a < 0) != decide (b < 0)) = below) :
    muldiv a b c up = if below then -((absI a * absI b + if (up != below) then c - 1 else 0) / c) else (absI a * absI b + if (up != below) then c - 1 else 0) / c := by
  rw [abs_mul, hb]
  unfold muldiv
  cases up <;> cases below <;> simp
  · rw [← neg_div _ _ hc, Int.neg_neg, Int.neg_neg]
  · rw [neg_div _ _ hc]

theorem abs_mul_bd (a b : Int) (a0 : -9223372036854775808 ≤ a) (a1 : a ≤ 9223372036854775807) (b0 : -9223372036854775808 ≤ b) (b1 : b ≤ 9223372036854775807) :
    0 ≤ absI a * absI b ∧ absI a * absI b ≤ 85070591730234615865843651857942052864 := by
  obtain ⟨m0, m1⟩ := absI_bd a a0 a1
  obtain ⟨n0, n1⟩ := absI_bd b b0 b1
  refine ⟨Int.mul_nonneg m0 n0, ?_⟩
  have h1 : absI a * absI b ≤ 9223372036854775808 * absI b := Int.mul_le_mul_of_nonneg_right m1 n0
  omega

/-- with a sign -/
def sgn (n : Bool) (q : Int) : Int := if n then -q else q
theorem high_of (D : Int) (D0 : 0 ≤ D) (D1 : D < 170141183460469231731687303715884105728) : wh D * 18446744073709551616 + wl D = D := by unfold wh wl; omega
theorem high_over (D c : Int) (n : Bool) (c0 : 1 ≤ c) (h : c * 18446744073709551616 ≤ D) : 0 = fitV (sgn n (D / c)) ∧ 3 = fitE (sgn n (D / c)) := by
  have h1 : 18446744073709551616 ≤ D / c := Int.le_ediv_of_mul_le (by omega) (by omega)
  apply fit_no
  unfold sgn
  cases n <;> simp <;> omega
theorem quot_bd (D c : Int) (D0 : 0 ≤ D) (c0 : 1 ≤ c) (h : D < c * 18446744073709551616) : 0 ≤ D / c ∧ D / c < 18446744073709551616 :=
  ⟨Int.ediv_nonneg D0 (by omega), Int.ediv_lt_of_lt_mul (by omega) (by omega)⟩

set_option maxRecDepth 100000 in
set_option maxHeartbeats 2000000 in
theorem muldiv_walk (a b c D P : Int) (up sa sb n m : Bool) (w : World) (a0 : -9223372036854775808 ≤ a) (a1 : a ≤ 9223372036854775807) (b0 : -9223372036854775808 ≤ b) (b1 : b ≤ 9223372036854775807) (c0 : 1 ≤ c) (c1 : c ≤ 9223372036854775807)
    (ha : decide (a < 0) = sa) (hb : decide (b < 0) = sb) (hlt : decide (c < 1) = false) (hn : Hid ((!(sa == sb)) = n)) (hm : Hid ((!(up == n)) = m)) (hP : Hid (absI a * absI b = P))
    (hD : Hid (D = P + if m then c - 1 else 0)) (D0 : 0 ≤ D) (D1 : D < 170141183460469231731687303715884105728) :
    Calls Try.prog 33 #[.int .i64 a, .int .i64 b, .int .i64 c, .bool up] w fun e w' => e = .returned (.tuple #[.int .i64 (fitV (sgn n (D / c))), .int .i64 (fitE (sgn n (D / c)))]) ∧ Below w.heap.size w w' := by
  obtain ⟨m0, m1⟩ := absI_bd a a0 a1
  obtain ⟨n0, n1⟩ := absI_bd b b0 b1
  go_enter Try.func33, Try.ntmps33
  go_wp2_with fail
  refine (magnitude_any a _ a0 a1).mono ?_
  rintro e w1 ⟨rfl, rfl⟩
  go_wp2_with fail
  refine (magnitude_any b _ b0 b1).mono ?_
  rintro e w1 ⟨rfl, rfl⟩
  go_wp2_with fail
  refine (product_any (absI a) (absI b) _ m0 (by omega) n0 (by omega)).mono ?_
  rintro e w1 ⟨rfl, hb1⟩
  simp only [wd]
  go_upto_region 6 with (fail)
  rw [hP.out, hn.out]
  go_upto_if 31 with (fail)
  rw [hm.out]
  clear ha hb m0 m1 n0 n1 hP hn hm
  have z1 := hb1.size
  replace hb1 := Lib.hid hb1
  go_cut [] (fun wc => wc.cell? ⟨w1.heap.size, 0, none⟩ = some (.int .u64 (wh D)) ∧ wc.cell? ⟨w1.heap.size, 1, none⟩ = some (.int .u64 (wl D)) ∧ Below w1.heap.size w1 wc)
  case first =>
    cases m
    · go_wp2_with fail
      go_meet
      have e : D = P := by rw [hD.out]; simp
      rw [e]
      exact ⟨by go_simp, by go_simp, (Below.refl _ _).alloc (Nat.le_refl _) _⟩
    · have e : P + (c - 1) = D := by rw [hD.out]; simp
      replace e := Lib.hid e
      go_wp2_with fail
      refine (plus_r P (c - 1) _ _ _ (wh_small (c - 1) (by omega) (by omega)).1 (wh_small (c - 1) (by omega) (by omega)).2).mono ?_
      rintro e' w2 ⟨rfl, hb2⟩
      rw [e.out]
      have hx : w2.cell? ⟨w1.heap.size, 0, none⟩ = some (.int .u64 (wh P)) := by rw [(bcell hb2).1 _ _ (by simp)]; go_simp
      have hy : w2.cell? ⟨w1.heap.size, 1, none⟩ = some (.int .u64 (wl P)) := by rw [(bcell hb2).1 _ _ (by simp)]; go_simp
      have fx : w2.frozen? ⟨w1.heap.size, 0, none⟩ = false := by rw [(bcell hb2).2 _ _ (by simp)]; go_simp
      have fy : w2.frozen? ⟨w1.heap.size, 1, none⟩ = false := by rw [(bcell hb2).2 _ _ (by simp)]; go_simp
      replace hb2 := Lib.hid hb2
      go_wp2_with fail
      go_meet
      exact ⟨by go_simp, by go_simp, ((((Below.refl _ _).alloc (Nat.le_refl _) _).trans (hb2.out.mono (by simp))).setCell (by simp) _).setCell (by simp) _⟩
  case rest =>
    obtain ⟨hx, hy, hbc⟩ := hcut
    have hB := Lib.hid (hb1.out.trans (hbc.mono z1))
    clear hb1 hbc
    have eD := high_of D D0 D1
    have t0 := wh_bd D
    have t1 := wl_bd D
    by_cases hc : c ≤ wh D
    · have hfin := Lib.hid (high_over D c n c0 (by omega))
      clear eD
      go_wp2_with fail
      go_ret2
      exact ⟨ret_two hfin.out.1 hfin.out.2, hB.out⟩
    · have hq := quot_bd D c D0 c0 (by omega)
      replace eD := Lib.hid eD
      obtain ⟨q0, q1⟩ := hq
      go_wp2_with fail
      refine (div64_any (wh D) (wl D) c _ t0.1 t1.1 t1.2 (by omega) (by omega)).mono ?_
      rintro e w2 ⟨⟨r, rfl⟩, k, rfl⟩
      rw [eD.out]
      go_wp2_with fail
      cases n
      · refine (signed_pos (D / c) _ q0 q1).mono ?_
        rintro e w3 ⟨rfl, rfl⟩
        go_wp2_with fail
        go_ret2
        exact ⟨rfl, hB.out.trans (below_drewN (Below.refl _ _) k)⟩
      · refine (signed_neg (D / c) _ q0 q1).mono ?_
        rintro e w3 ⟨rfl, rfl⟩
        go_wp2_with fail
        go_ret2
        exact ⟨rfl, hB.out.trans (below_drewN (Below.refl _ _) k)⟩

theorem muldiv_any (a b c : Int) (up : Bool) (w : World) (a0 : -9223372036854775808 ≤ a) (a1 : a ≤ 9223372036854775807) (b0 : -9223372036854775808 ≤ b) (b1 : b ≤ 9223372036854775807) (c0 : 1 ≤ c) (c1 : c ≤ 9223372036854775807) :
    Calls Try.prog 33 #[.int .i64 a, .int .i64 b, .int .i64 c, .bool up] w fun e w' => e = .returned (.tuple #[.int .i64 (fitV (muldiv a b c up)), .int .i64 (fitE (muldiv a b c up))]) ∧ Below w.heap.size w w' := by
  obtain ⟨p0, p1⟩ := abs_mul_bd a b a0 a1 b0 b1
  have e1 : ∀ x y : Bool, (!(x == y)) = (x != y) := fun _ _ => rfl
  have hm := muldiv_eq a b c up _ c0 rfl
  rw [hm]
  exact muldiv_walk a b c _ _ up _ _ _ _ w a0 a1 b0 b1 c0 c1 rfl rfl (by simp; omega) (e1 _ _) (e1 _ _) rfl rfl (by split <;> omega) (by split <;> omega)

set_option maxHeartbeats 400000 in
theorem muldiv_arg (a b c : Int) (up : Bool) (w : World) (c0 : c < 1) :
    Calls Try.prog 33 #[.int .i64 a, .int .i64 b, .int .i64 c, .bool up] w fun e w' => e = .returned (.tuple #[.int .i64 0, .int .i64 1]) ∧ w = w' := by
  go_enter Try.func33, Try.ntmps33
  go_wp2_with fail
  go_ret2
  exact ⟨rfl, rfl⟩

theorem muldiv_one (a b : Int) : muldiv a b 1 false = a * b := by unfold muldiv; simp
end Go.Proofs.Ytbljdjgbjnhcgaa
