/- The contract of math/bits.Div64.
  The contracts of money's MulDiv and Mul. -/
import Derived.Test.YthocnlalahknjaaGreatShelf
import Derived.Test.YthocnlalahknjaaGreatD1
import Derived.Test.YthocnlalahknjaaGreatA4
import Derived.Deep.DeepCutAuto
import Derived.Deep.CutBlock
import Derived.Deep.QuietTactic
import Derived.BigQuiet
namespace Go.Proofs.YthocnlalahknjaaGreat
open Go.RowKit
set_option linter.unusedVariables false

set_option maxRecDepth 100000 in
set_option maxHeartbeats 1000000 in
theorem div64_low (lo y : Int) (w : World) (l0 : 0 ≤ lo) (l1 : lo < 18446744073709551616) (y0 : 0 < y) (y1 : y < 18446744073709551616) (e0 : (y == 0) = false) (e1 : decide (y ≤ 0) = false) :
    Calls Tryz.prog 123 #[.int .u64 0, .int .u64 lo, .int .u64 y] w fun e w' => e = .returned (.tuple #[.int .u64 (lo / y), .int .u64 (lo % y)]) ∧ ∃ n, w' = w.drewN n := by
  go_enter Tryz.func123, Tryz.ntmps123
  go_wp2_with fail
  go_quiet (fail)
  go_wp2_with fail
  go_ret2
  exact ⟨rfl, nq, rfl⟩

theorem digit_leave {u Y yh yl d q r : Int} (eY : Y = yh * 4294967296 + yl) (G : Guess u yh yl d q r) (hq : q ≤ 4294967296) (d0 : 0 ≤ d) (d1 : d < 4294967296) (hy0 : 0 ≤ yl) (hy1 : yl < 4294967296) (hr : 4294967296 ≤ r) (Y0 : 0 < Y) (uY : u < Y) : Digit u Y d q := by
  have h1 := G.leave hq d0 hy0 hy1 hr
  have h2 := G.up
  rw [← eY] at h1 h2
  exact Digit.mk' G.q0 Y0 uY d1 h1 h2
theorem digit_done {u Y yh yl d q r : Int} (eY : Y = yh * 4294967296 + yl) (G : Guess u yh yl d q r) (d1 : d < 4294967296) (h : q * yl ≤ 4294967296 * r + d) (Y0 : 0 < Y) (uY : u < Y) : Digit u Y d q := by
  have h1 := G.done h
  have h2 := G.up
  rw [← eY] at h1 h2
  exact Digit.mk' G.q0 Y0 uY d1 h1 h2
theorem guess_next {u Y yh yl d q r : Int} (eY : Y = yh * 4294967296 + yl) (G : Guess u yh yl d q r) (u0 : 0 ≤ u) (d0 : 0 ≤ d) (hyh : 0 ≤ yh) (Y0 : 0 < Y) (uY : u < Y) (d1 : d < 4294967296) (h : 4294967296 ≤ q ∨ 4294967296 * r + d < q * yl) :
    Guess u yh yl d (q - 1) (r + yh) ∧ q - 1 ≤ 4294967296 := G.next u0 d0 hyh (by rw [← eY]; exact Y0) (by rw [← eY]; exact uY) d1 h
theorem small_mul {q yl : Int} (q0 : 0 ≤ q) (q1 : q < 4294967296) (y0 : 0 ≤ yl) (y1 : yl < 4294967296) : 0 ≤ q * yl ∧ q * yl < 18446744073709551616 := by
  refine ⟨Int.mul_nonneg q0 y0, ?_⟩
  have h1 : q * yl ≤ 4294967295 * yl := Int.mul_le_mul_of_nonneg_right (by omega) y0
  omega

theorem wrap_u64' (a : Int) (a0 : 0 ≤ a) (a1 : a < 18446744073709551616) : IntKind.u64.wrap a = a := by rw [IntKind.wrap_u64]; omega
theorem rest_bd {u Y d q m : Int} (D : Digit u Y d q) (hm : m = u * 4294967296 + d - q * Y) (Y1 : Y < 18446744073709551616) :
    0 ≤ m ∧ m < Y ∧ IntKind.u64.wrap (IntKind.u64.wrap (IntKind.u64.wrap (u * 4294967296) + d) - IntKind.u64.wrap (q * Y)) = m := by
  have h1 := D.lo
  have h2 := D.up
  refine ⟨by omega, by omega, ?_⟩
  simp only [IntKind.wrap_u64]
  omega
theorem first_bd (u yh yl d : Int) (u0 : 0 ≤ u) (u1 : u < 18446744073709551616) (hy1 : 2147483648 ≤ yh) (hy2 : yh < 4294967296) (hy0 : 0 ≤ yl) (hy0' : yl < 4294967296) (hu : u < yh * 4294967296 + yl) (d1 : d < 4294967296) :
    ∃ g r : Int, u / yh = g ∧ IntKind.u64.wrap (u - IntKind.u64.wrap (g * yh)) = r ∧ Guess u yh yl d g r ∧ r < 4294967296 := by
  refine ⟨_, _, rfl, rfl, ?_⟩
  have G := Guess.first u yh yl d u0 hy1 hy0 hy0' hu d1
  have e : IntKind.u64.wrap (u - IntKind.u64.wrap (u / yh * yh)) = u - u / yh * yh := by
    have a1 := G.r0
    have a2 : 0 ≤ u / yh * yh := Int.mul_nonneg G.q0 (by omega)
    simp only [IntKind.wrap_u64]
    omega
  rw [e]
  refine ⟨G, ?_⟩
  have hl := Int.emod_lt_of_pos u (by omega : 0 < yh)
  have he := Int.emod_def u yh
  have hc : yh * (u / yh) = u / yh * yh := Int.mul_comm _ _
  omega

set_option maxRecDepth 100000 in
set_option maxHeartbeats 2000000 in
theorem div64_high (hi lo y : Int) (s : Nat) (Y yh yl u v d1 d0 g r : Int) (w : World) (h0 : 0 < hi) (l0 : 0 ≤ lo) (l1 : lo < 18446744073709551616) (hy : hi < y) (y1 : y < 18446744073709551616) (hs : s ≤ 63) (hS : Hid ((64 - (Lib.bitLen y.toNat : Int)) = s))
    (e0 : (y == 0) = false) (e1 : decide (y ≤ hi) = false) (e2 : (hi == 0) = false)
    (hY : Hid (IntKind.u64.wrap (y * 2 ^ s) = Y)) (hyh : Hid (Y / 4294967296 = yh)) (hyl : Hid (bits BinOp.and IntKind.u64 Y 4294967295 = yl))
    (hu : Hid (bits BinOp.or IntKind.u64 (IntKind.u64.wrap (hi * 2 ^ s)) (lo / 2 ^ (64 - s)) = u)) (hv : Hid (IntKind.u64.wrap (lo * 2 ^ s) = v))
    (hd1 : Hid (v / 4294967296 = d1)) (hd0 : Hid (bits BinOp.and IntKind.u64 v 4294967295 = d0)) (hg : Hid (u / yh = g)) (hr : Hid (IntKind.u64.wrap (u - IntKind.u64.wrap (g * yh)) = r))
    (yh0 : 2147483648 ≤ yh) (yh1 : yh < 4294967296) (yl0 : 0 ≤ yl) (yl1 : yl < 4294967296) (u0 : 0 ≤ u) (u1 : u < 18446744073709551616) (d10 : 0 ≤ d1) (d11 : d1 < 4294967296) (d00 : 0 ≤ d0) (d01 : d0 < 4294967296)
    (G1 : Guess u yh yl d1 g r) (r1 : r < 4294967296) (g0 : 0 ≤ g) (g1 : g ≤ 4294967297) (r0 : 0 ≤ r)
    (Y0 : 0 < Y) (Y1 : Y < 18446744073709551616) (uY : u < Y) (hYe : Hid (Y = yh * 4294967296 + yl)) :
    Calls Tryz.prog 123 #[.int .u64 hi, .int .u64 lo, .int .u64 y] w fun e w' => (∃ q1 q0 r : Int, Digit u Y d1 q1 ∧ Digit (u * 4294967296 + d1 - q1 * Y) Y d0 q0 ∧ e = .returned (.tuple #[.int .u64 (q1 * 4294967296 + q0), .int .u64 r])) ∧ ∃ n, w' = w.drewN n := by
  have s1 : (s : Int) ≤ 63 := by omega
  replace G1 := Lib.hid G1
  go_enter Tryz.func123, Tryz.ntmps123
  go_wp2_with fail
  refine (Tryz.bits_LeadingZeros64 y w (by omega) (by omega)).mono ?_
  rintro e w1 ⟨rfl, rfl⟩
  rw [hS.out]
  go_upto_region 9 with (fail)
  rw [hY.out]
  go_upto_region 12 with (fail)
  rw [hyh.out, hyl.out, hu.out]
  go_upto_region 13 with (fail)
  rw [hv.out]
  go_upto_region 15 with (fail)
  rw [hd1.out, hd0.out]
  go_upto_region 16 with (fail)
  rw [hg.out]
  go_upto_block 0 with (fail)
  rw [hr.out]
  clear hS hY hyh hyl hu hv hd1 hd0 hg hr
  go_cut [15] (fun s15 wc => ∃ q : Int, Digit u Y d1 q ∧ s15 = .int .u64 q ∧ wc = w1)
  case first =>
    go_wp2_with fail
    go_loop [15, 16] (fun a b => ∃ q r : Int, Guess u yh yl d1 q r ∧ r < 4294967296 ∧ a = .int .u64 q ∧ b = .int .u64 r) (fun a _ => (intOf a).toNat)
    case atStart => exact ⟨g, r, G1.out, r1, rfl, rfl⟩
    case round =>
      clear G1 r1 g0 g1 r0
      obtain ⟨q, r, G, r1, rfl, rfl⟩ := hrel
      have q0 := G.q0
      have q1 := G.q1
      have r0 := G.r0
      replace G := Lib.hid G
      by_cases c1 : 4294967296 ≤ q
      · obtain ⟨Gn, qn⟩ := guess_next hYe.out G.out u0 d10 (by omega) Y0 uY d11 (.inl c1)
        replace Gn := Lib.hid Gn
        by_cases c2 : 4294967296 ≤ r + yh
        · go_wp2_with fail
          go_meet
          exact ⟨q - 1, digit_leave hYe.out Gn.out qn d10 d11 yl0 yl1 c2 Y0 uY, rfl, rfl⟩
        · go_wp2_with fail
          exact ⟨⟨q - 1, r + yh, Gn.out, by omega, rfl, rfl⟩, by simp [intOf]; omega⟩
      · obtain ⟨m0, m1⟩ := small_mul q0 (by omega) yl0 yl1
        by_cases c3 : 4294967296 * r + d1 < q * yl
        · obtain ⟨Gn, qn⟩ := guess_next hYe.out G.out u0 d10 (by omega) Y0 uY d11 (.inr c3)
          replace Gn := Lib.hid Gn
          have qp : 0 ≤ q - 1 := Gn.out.q0
          by_cases c2 : 4294967296 ≤ r + yh
          · go_wp2_with fail
            go_meet
            exact ⟨q - 1, digit_leave hYe.out Gn.out qn d10 d11 yl0 yl1 c2 Y0 uY, rfl, rfl⟩
          · go_wp2_with fail
            exact ⟨⟨q - 1, r + yh, Gn.out, by omega, rfl, rfl⟩, by simp [intOf]; omega⟩
        · go_wp2_with fail
          go_meet
          exact ⟨q, digit_done hYe.out G.out d11 (by omega) Y0 uY, rfl, rfl⟩
  case rest =>
    clear G1 r1 g0 g1 r0
    obtain ⟨q1, D1, rfl, rfl⟩ := hcut
    have q10 := D1.q0
    have q11 := D1.q1
    replace D1 := Lib.hid D1
    obtain ⟨m, hm⟩ : ∃ m, m = u * 4294967296 + d1 - q1 * Y := ⟨_, rfl⟩
    obtain ⟨m0, mY, hmw⟩ := rest_bd D1.out hm Y1
    obtain ⟨g, r, hg, hr, G1, r1⟩ := first_bd m yh yl d0 m0 (by omega) yh0 yh1 yl0 yl1 (by rw [← hYe.out]; exact mY) d01
    replace hm := Lib.hid hm
    replace hmw := Lib.hid hmw
    replace hg := Lib.hid hg
    replace hr := Lib.hid hr
    have g0 := G1.q0
    have g1 := G1.q1
    have r0 := G1.r0
    replace G1 := Lib.hid G1
    go_upto_region 22 with (fail)
    rw [hmw.out]
    go_upto_region 23 with (fail)
    rw [hg.out]
    go_upto_block 2 with (fail)
    rw [hr.out]
    clear hmw hg hr
    go_cut [18] (fun s18 wc' => ∃ q : Int, Digit m Y d0 q ∧ s18 = .int .u64 q ∧ wc' = wc)
    case first =>
      go_wp2_with fail
      go_loop [16, 18] (fun b a => ∃ q r : Int, Guess m yh yl d0 q r ∧ r < 4294967296 ∧ a = .int .u64 q ∧ b = .int .u64 r) (fun _ a => (intOf a).toNat)
      case atStart => exact ⟨g, r, G1.out, r1, rfl, rfl⟩
      case round =>
        clear G1 r1 g0 g1 r0
        obtain ⟨q, r, G, r1, rfl, rfl⟩ := hrel
        have q0 := G.q0
        have q1 := G.q1
        have r0 := G.r0
        replace G := Lib.hid G
        by_cases c1 : 4294967296 ≤ q
        · obtain ⟨Gn, qn⟩ := guess_next hYe.out G.out m0 d00 (by omega) Y0 mY d01 (.inl c1)
          replace Gn := Lib.hid Gn
          by_cases c2 : 4294967296 ≤ r + yh
          · go_wp2_with fail
            go_meet
            exact ⟨q - 1, digit_leave hYe.out Gn.out qn d00 d01 yl0 yl1 c2 Y0 mY, rfl, rfl⟩
          · go_wp2_with fail
            exact ⟨⟨q - 1, r + yh, Gn.out, by omega, rfl, rfl⟩, by simp [intOf]; omega⟩
        · obtain ⟨n0, n1⟩ := small_mul q0 (by omega) yl0 yl1
          by_cases c3 : 4294967296 * r + d0 < q * yl
          · obtain ⟨Gn, qn⟩ := guess_next hYe.out G.out m0 d00 (by omega) Y0 mY d01 (.inr c3)
            replace Gn := Lib.hid Gn
            have qp : 0 ≤ q - 1 := Gn.out.q0
            by_cases c2 : 4294967296 ≤ r + yh
            · go_wp2_with fail
              go_meet
              exact ⟨q - 1, digit_leave hYe.out Gn.out qn d00 d01 yl0 yl1 c2 Y0 mY, rfl, rfl⟩
            · go_wp2_with fail
              exact ⟨⟨q - 1, r + yh, Gn.out, by omega, rfl, rfl⟩, by simp [intOf]; omega⟩
          · go_wp2_with fail
            go_meet
            exact ⟨q, digit_done hYe.out G.out d01 (by omega) Y0 mY, rfl, rfl⟩
    case rest =>
      clear G1 r1 g0 g1 r0
      obtain ⟨q0, D0, rfl, rfl⟩ := hcut
      have q00 := D0.q0
      have q01 := D0.q1
      replace D0 := Lib.hid D0
      go_wp2_with fail
      go_ret2
      exact ⟨⟨q1, q0, _, D1.out, by rw [← hm.out]; exact D0.out, rfl⟩, 0, rfl⟩

/-- what Div64 returns: the quotient; of what is left nothing is said -/
def Quot64 (q : Int) (w : World) (e : Ending) (w' : World) : Prop := (∃ r : Int, e = .returned (.tuple #[.int .u64 q, .int .u64 r])) ∧ ∃ n, w' = w.drewN n

theorem div64_any (hi lo y : Int) (w : World) (h0 : 0 ≤ hi) (l0 : 0 ≤ lo) (l1 : lo < 18446744073709551616) (hy : hi < y) (y1 : y < 18446744073709551616) :
    Calls Tryz.prog 123 #[.int .u64 hi, .int .u64 lo, .int .u64 y] w (Quot64 ((hi * 18446744073709551616 + lo) / y) w) := by
  have e0 : (y == 0) = false := by rw [beq_eq_false_iff_ne]; omega
  by_cases hz : hi = 0
  · subst hz
    refine (div64_low lo y w l0 l1 hy y1 e0 (by simp; omega)).mono fun e w' ⟨he, hw⟩ => ⟨⟨lo % y, ?_⟩, hw⟩
    rw [he, Int.zero_mul, Int.zero_add]
  · obtain ⟨s, t, e, hs, hS, ht, he, t1, e1, hte, yt0, yt1⟩ := shift_spec y (by omega) y1
    obtain ⟨a0, a1, a2, a3, a4⟩ := moved hi lo y t e h0 l0 l1 hy t1 e1 hte
    have hY : IntKind.u64.wrap (y * 2 ^ s) = y * t := by rw [ht, IntKind.wrap_u64]; omega
    have hu : bits BinOp.or IntKind.u64 (IntKind.u64.wrap (hi * 2 ^ s)) (lo / 2 ^ (64 - s)) = hi * t + lo / e := by
      rw [ht, he, wrap_u64' (hi * t) a2 (by omega)]
      exact or_add hi (lo / e) s t ht h0 a0 a1 (by omega) (by omega)
    have hv : IntKind.u64.wrap (lo * 2 ^ s) = lo * t % 18446744073709551616 := by rw [ht, IntKind.wrap_u64]
    generalize hYg : y * t = Y at *
    generalize hug : hi * t + lo / e = u at *
    generalize hvg : lo * t % 18446744073709551616 = v at *
    have v0 : 0 ≤ v ∧ v < 18446744073709551616 := by omega
    obtain ⟨g, r, hg, hr, G1, r1⟩ := first_bd u (Y / 4294967296) (Y % 4294967296) (v / 4294967296) (by omega) (by omega) (by omega) (by omega) (by omega) (by omega) (by omega) (by omega)
    refine (div64_high hi lo y s Y (Y / 4294967296) (Y % 4294967296) u v (v / 4294967296) (v % 4294967296) g r w (by omega) l0 l1 hy y1 hs hS e0 (by simp; omega) (by rw [beq_eq_false_iff_ne]; omega)
      hY rfl (and_mask Y (by omega) (by omega)) hu hv rfl (and_mask v v0.1 v0.2) hg hr (by omega) (by omega) (by omega) (by omega) (by omega) (by omega) (by omega) (by omega) (by omega) (by omega)
      G1 r1 G1.q0 G1.q1 G1.r0 (by omega) (by omega) a3 (by show Y = _; omega)).mono ?_
    rintro e' w' ⟨⟨q1, q0, r', D1, D0, rfl⟩, hw⟩
    refine ⟨⟨r', ?_⟩, hw⟩
    have key := two_digits rfl D0
    rw [show v / 4294967296 * 4294967296 + v % 4294967296 = v from by omega, a4, ← hYg, Int.mul_ediv_mul_of_pos_left _ _ (by omega)] at key
    rw [key]
end Go.Proofs.YthocnlalahknjaaGreat
namespace Go.Proofs.YthocnlalahknjaaGreat
open Go.RowKit
set_option linter.unusedVariables false

theorem below_drewN {B : Nat} {a w : World} (h : Below B a w) (n : Nat) : Below B a (w.drewN n) := ⟨h.os, h.tape, h.output, h.size, h.block⟩

/-- the whole number about a times b by c, down or up -/
def muldiv (a b c : Int) (up : Bool) : Int := if up then -(-(a * b) / c) else a * b / c

theorem neg_div (P c : Int) (hc : 1 ≤ c) : -(-P / c) = (P + (c - 1)) / c := by
  have h1 := Int.emod_nonneg (-P) (by omega : c ≠ 0)
  have h2 := Int.emod_lt_of_pos (-P) (by omega : 0 < c)
  have h3 := Int.emod_def (-P) c
  symm
  refine div_of (r := P + (c - 1) + -P / c * c) ?_ ?_ ?_
  · have : c * (-P / c) = -P / c * c := Int.mul_comm _ _
    omega
  · have : c * (-P / c) = -P / c * c := Int.mul_comm _ _
    omega
  · rw [Int.neg_mul]; omega

theorem abs_mul (a b : Int) : absI a * absI b = if (decide (a < 0) != decide (b < 0)) then -(a * b) else a * b := by
  unfold absI
  by_cases ha : a < 0 <;> by_cases hb : b < 0 <;> simp [ha, hb, Int.neg_mul, Int.mul_neg]

theorem muldiv_eq (a b c : Int) (up below : Bool) (hc : 1 ≤ c) (hb : (decide (a < 0) != decide (b < 0)) = below) :
    muldiv a b c up = if below then -((absI a * absI b + if (up != below) then c - 1 else 0) / c) else (absI a * absI b + if (up != below) then c - 1 else 0) / c := by
  rw [abs_mul, hb]
  unfold muldiv
  cases up <;> cases below <;> simp
  · rw [← neg_div _ _ hc, Int.neg_neg, Int.neg_neg]
  · rw [neg_div _ _ hc]

theorem abs_mul_bd (a b : Int) (a0 : -9223372036854775808 ≤ a) (a1 : a ≤ 9223372036854775807) (b0 : -9223372036854775808 ≤ b) (b1 : b ≤ 9223372036854775807) :
    0 ≤ absI a * absI b ∧ absI a * absI b ≤ 85070591730234615865843651857942052864 := by
  obtain ⟨m0, m1⟩ := absI_bd a a0 a1
  obtain ⟨n0, n1⟩ := absI_bd b b0 b1
  refine ⟨Int.mul_nonneg m0 n0, ?_⟩
  have h1 : absI a * absI b ≤ 9223372036854775808 * absI b := Int.mul_le_mul_of_nonneg_right m1 n0
  omega

/-- with a sign -/
def sgn (n : Bool) (q : Int) : Int := if n then -q else q
theorem high_of (D : Int) (D0 : 0 ≤ D) (D1 : D < 170141183460469231731687303715884105728) : wh D * 18446744073709551616 + wl D = D := by unfold wh wl; omega
theorem high_over (D c : Int) (n : Bool) (c0 : 1 ≤ c) (h : c * 18446744073709551616 ≤ D) : 0 = fitV (sgn n (D / c)) ∧ 3 = fitE (sgn n (D / c)) := by
  have h1 : 18446744073709551616 ≤ D / c := Int.le_ediv_of_mul_le (by omega) (by omega)
  apply fit_no
  unfold sgn
  cases n <;> simp <;> omega
theorem quot_bd (D c : Int) (D0 : 0 ≤ D) (c0 : 1 ≤ c) (h : D < c * 18446744073709551616) : 0 ≤ D / c ∧ D / c < 18446744073709551616 :=
  ⟨Int.ediv_nonneg D0 (by omega), Int.ediv_lt_of_lt_mul (by omega) (by omega)⟩

set_option maxRecDepth 100000 in
set_option maxHeartbeats 2000000 in
theorem muldiv_walk (a b c D P : Int) (up sa sb n m : Bool) (w : World) (a0 : -9223372036854775808 ≤ a) (a1 : a ≤ 9223372036854775807) (b0 : -9223372036854775808 ≤ b) (b1 : b ≤ 9223372036854775807) (c0 : 1 ≤ c) (c1 : c ≤ 9223372036854775807)
    (ha : decide (a < 0) = sa) (hb : decide (b < 0) = sb) (hlt : decide (c < 1) = false) (hn : Hid ((!(sa == sb)) = n)) (hm : Hid ((!(up == n)) = m)) (hP : Hid (absI a * absI b = P))
    (hD : Hid (D = P + if m then c - 1 else 0)) (D0 : 0 ≤ D) (D1 : D < 170141183460469231731687303715884105728) :
    Calls Tryz.prog 117 #[.int .i64 a, .int .i64 b, .int .i64 c, .bool up] w fun e w' => e = .returned (.tuple #[.int .i64 (fitV (sgn n (D / c))), .int .i64 (fitE (sgn n (D / c)))]) ∧ Below w.heap.size w w' := by
  obtain ⟨m0, m1⟩ := absI_bd a a0 a1
  obtain ⟨n0, n1⟩ := absI_bd b b0 b1
  go_enter Tryz.func117, Tryz.ntmps117
  go_wp2_with fail
  refine (magnitude_any a _ a0 a1).mono ?_
  rintro e w1 ⟨rfl, rfl⟩
  go_wp2_with fail
  refine (magnitude_any b _ b0 b1).mono ?_
  rintro e w1 ⟨rfl, rfl⟩
  go_wp2_with fail
  refine (product_any (absI a) (absI b) _ m0 (by omega) n0 (by omega)).mono ?_
  rintro e w1 ⟨rfl, hb1⟩
  simp only [wd]
  go_upto_region 6 with (fail)
  rw [hP.out, hn.out]
  go_upto_if 31 with (fail)
  rw [hm.out]
  clear ha hb m0 m1 n0 n1 hP hn hm
  have z1 := hb1.size
  replace hb1 := Lib.hid hb1
  go_cut [] (fun wc => wc.cell? ⟨w1.heap.size, 0, none⟩ = some (.int .u64 (wh D)) ∧ wc.cell? ⟨w1.heap.size, 1, none⟩ = some (.int .u64 (wl D)) ∧ Below w1.heap.size w1 wc)
  case first =>
    cases m
    · go_wp2_with fail
      go_meet
      have e : D = P := by rw [hD.out]; simp
      rw [e]
      exact ⟨by go_simp, by go_simp, (Below.refl _ _).alloc (Nat.le_refl _) _⟩
    · have e : P + (c - 1) = D := by rw [hD.out]; simp
      replace e := Lib.hid e
      go_wp2_with fail
      refine (plus_r P (c - 1) _ _ _ (wh_small (c - 1) (by omega) (by omega)).1 (wh_small (c - 1) (by omega) (by omega)).2).mono ?_
      rintro e' w2 ⟨rfl, hb2⟩
      rw [e.out]
      have hx : w2.cell? ⟨w1.heap.size, 0, none⟩ = some (.int .u64 (wh P)) := by rw [(bcell hb2).1 _ _ (by simp)]; go_simp
      have hy : w2.cell? ⟨w1.heap.size, 1, none⟩ = some (.int .u64 (wl P)) := by rw [(bcell hb2).1 _ _ (by simp)]; go_simp
      have fx : w2.frozen? ⟨w1.heap.size, 0, none⟩ = false := by rw [(bcell hb2).2 _ _ (by simp)]; go_simp
      have fy : w2.frozen? ⟨w1.heap.size, 1, none⟩ = false := by rw [(bcell hb2).2 _ _ (by simp)]; go_simp
      replace hb2 := Lib.hid hb2
      go_wp2_with fail
      go_meet
      exact ⟨by go_simp, by go_simp, ((((Below.refl _ _).alloc (Nat.le_refl _) _).trans (hb2.out.mono (by simp))).setCell (by simp) _).setCell (by simp) _⟩
  case rest =>
    obtain ⟨hx, hy, hbc⟩ := hcut
    have hB := Lib.hid (hb1.out.trans (hbc.mono z1))
    clear hb1 hbc
    have eD := high_of D D0 D1
    have t0 := wh_bd D
    have t1 := wl_bd D
    by_cases hc : c ≤ wh D
    · have hfin := Lib.hid (high_over D c n c0 (by omega))
      clear eD
      go_wp2_with fail
      go_ret2
      exact ⟨ret_two hfin.out.1 hfin.out.2, hB.out⟩
    · have hq := quot_bd D c D0 c0 (by omega)
      replace eD := Lib.hid eD
      obtain ⟨q0, q1⟩ := hq
      go_wp2_with fail
      refine (div64_any (wh D) (wl D) c _ t0.1 t1.1 t1.2 (by omega) (by omega)).mono ?_
      rintro e w2 ⟨⟨r, rfl⟩, k, rfl⟩
      rw [eD.out]
      go_wp2_with fail
      cases n
      · refine (signed_pos (D / c) _ q0 q1).mono ?_
        rintro e w3 ⟨rfl, rfl⟩
        go_wp2_with fail
        go_ret2
        exact ⟨rfl, hB.out.trans (below_drewN (Below.refl _ _) k)⟩
      · refine (signed_neg (D / c) _ q0 q1).mono ?_
        rintro e w3 ⟨rfl, rfl⟩
        go_wp2_with fail
        go_ret2
        exact ⟨rfl, hB.out.trans (below_drewN (Below.refl _ _) k)⟩

theorem muldiv_any (a b c : Int) (up : Bool) (w : World) (a0 : -9223372036854775808 ≤ a) (a1 : a ≤ 9223372036854775807) (b0 : -9223372036854775808 ≤ b) (b1 : b ≤ 9223372036854775807) (c0 : 1 ≤ c) (c1 : c ≤ 9223372036854775807) :
    Calls Tryz.prog 117 #[.int .i64 a, .int .i64 b, .int .i64 c, .bool up] w fun e w' => e = .returned (.tuple #[.int .i64 (fitV (muldiv a b c up)), .int .i64 (fitE (muldiv a b c up))]) ∧ Below w.heap.size w w' := by
  obtain ⟨p0, p1⟩ := abs_mul_bd a b a0 a1 b0 b1
  have e1 : ∀ x y : Bool, (!(x == y)) = (x != y) := fun _ _ => rfl
  have hm := muldiv_eq a b c up _ c0 rfl
  rw [hm]
  exact muldiv_walk a b c _ _ up _ _ _ _ w a0 a1 b0 b1 c0 c1 rfl rfl (by simp; omega) (e1 _ _) (e1 _ _) rfl rfl (by split <;> omega) (by split <;> omega)

set_option maxHeartbeats 400000 in
theorem muldiv_arg (a b c : Int) (up : Bool) (w : World) (c0 : c < 1) :
    Calls Tryz.prog 117 #[.int .i64 a, .int .i64 b, .int .i64 c, .bool up] w fun e w' => e = .returned (.tuple #[.int .i64 0, .int .i64 1]) ∧ w = w' := by
  go_enter Tryz.func117, Tryz.ntmps117
  go_wp2_with fail
  go_ret2
  exact ⟨rfl, rfl⟩

theorem muldiv_one (a b : Int) : muldiv a b 1 false = a * b := by unfold muldiv; simp
end Go.Proofs.YthocnlalahknjaaGreat
