/- The contract of math/bits.Div64.
  The contracts of money's MulDiv and Mul.
  The contracts of money's Sum and Chain, over a slice of amounts.
  awake answers true.
  Tables of currencies in memory; the contract of the law's large.
  The contracts of table's misspelt, outOfBounds, isBase and Find.
  The contracts of table's Find, twice, Check, and of slices.IndexFunc and ContainsFunc. -/
import Derived.Test.YtiehbbhjpcnbnaaGreatMAA
import Derived.Deep.DeepCutAuto
import Derived.Deep.CutBlock
import Derived.Deep.QuietTactic
import Derived.BigQuiet
import Derived.OwnWalk
import Derived.Laws.RangeAny
namespace Go.Proofs.YtiehbbhjpcnbnaaGreat
open Go.RowKit
set_option linter.unusedVariables false

set_option maxRecDepth 100000 in
set_option maxHeartbeats 1000000 in
theorem div64_low (lo y : Int) (w : World) (l0 : 0 ≤ lo) (l1 : lo < 18446744073709551616) (y0 : 0 < y) (y1 : y < 18446744073709551616) (e0 : (y == 0) = false) (e1 : decide (y ≤ 0) = false) :
    Calls Tryz.prog 132 #[.int .u64 0, .int .u64 lo, .int .u64 y] w fun e w' => e = .returned (.tuple #[.int .u64 (lo / y), .int .u64 (lo % y)]) ∧ ∃ n, w' = w.drewN n := by
  go_enter Tryz.func132, Tryz.ntmps132
  go_wp2_with fail
  go_quiet (fail)
  go_wp2_with fail
  go_ret2
  exact ⟨rfl, nq, rfl⟩

theorem digit_leave {u Y yh yl d q r : Int} (eY : Y = yh * 4294967296 + yl) (G : Guess u yh yl d q r) (hq : q ≤ 4294967296) (d0 : 0 ≤ d) (d1 : d < 4294967296) (hy0 : 0 ≤ yl) (hy1 : yl < 4294967296) (hr : 4294967296 ≤ r) (Y0 : 0 < Y) (uY : u < Y) : Digit u Y d q := by
  have h1 := G.leave hq d0 hy0 hy1 hr
  have h2 := G.up
  rw [← eY] at h1 h2
  exact Digit.mk' G.q0 Y0 uY d1 h1 h2
theorem digit_done {u Y yh yl d q r : Int} (eY : Y = yh * 4294967296 + yl) (G : Guess u yh yl d q r) (d1 : d < 4294967296) (h : q * yl ≤ 4294967296 * r + d) (Y0 : 0 < Y) (uY : u < Y) : Digit u Y d q := by
  have h1 := G.done h
  have h2 := G.up
  rw [← eY] at h1 h2
  exact Digit.mk' G.q0 Y0 uY d1 h1 h2
theorem guess_next {u Y yh yl d q r : Int} (eY : Y = yh * 4294967296 + yl) (G : Guess u yh yl d q r) (u0 : 0 ≤ u) (d0 : 0 ≤ d) (hyh : 0 ≤ yh) (Y0 : 0 < Y) (uY : u < Y) (d1 : d < 4294967296) (h : 4294967296 ≤ q ∨ 4294967296 * r + d < q * yl) :
    Guess u yh yl d (q - 1) (r + yh) ∧ q - 1 ≤ 4294967296 := G.next u0 d0 hyh (by rw [← eY]; exact Y0) (by rw [← eY]; exact uY) d1 h
theorem small_mul {q yl : Int} (q0 : 0 ≤ q) (q1 : q < 4294967296) (y0 : 0 ≤ yl) (y1 : yl < 4294967296) : 0 ≤ q * yl ∧ q * yl < 18446744073709551616 := by
  refine ⟨Int.mul_nonneg q0 y0, ?_⟩
  have h1 : q * yl ≤ 4294967295 * yl := Int.mul_le_mul_of_nonneg_right (by omega) y0
  omega

theorem wrap_u64' (a : Int) (a0 : 0 ≤ a) (a1 : a < 18446744073709551616) : IntKind.u64.wrap a = a := by rw [IntKind.wrap_u64]; omega
theorem rest_bd {u Y d q m : Int} (D : Digit u Y d q) (hm : m = u * 4294967296 + d - q * Y) (Y1 : Y < 18446744073709551616) :
    0 ≤ m ∧ m < Y ∧ IntKind.u64.wrap (IntKind.u64.wrap (IntKind.u64.wrap (u * 4294967296) + d) - IntKind.u64.wrap (q * Y)) = m := by
  have h1 := D.lo
  have h2 := D.up
  refine ⟨by omega, by omega, ?_⟩
  simp only [IntKind.wrap_u64]
  omega
theorem first_bd (u yh yl d : Int) (u0 : 0 ≤ u) (u1 : u < 18446744073709551616) (hy1 : 2147483648 ≤ yh) (hy2 : yh < 4294967296) (hy0 : 0 ≤ yl) (hy0' : yl < 4294967296) (hu : u < yh * 4294967296 + yl) (d1 : d < 4294967296) :
    ∃ g r : Int, u / yh = g ∧ IntKind.u64.wrap (u - IntKind.u64.wrap (g * yh)) = r ∧ Guess u yh yl d g r ∧ r < 4294967296 := by
  refine ⟨_, _, rfl, rfl, ?_⟩
  have G := Guess.first u yh yl d u0 hy1 hy0 hy0' hu d1
  have e : IntKind.u64.wrap (u - IntKind.u64.wrap (u / yh * yh)) = u - u / yh * yh := by
    have a1 := G.r0
    have a2 : 0 ≤ u / yh * yh := Int.mul_nonneg G.q0 (by omega)
    simp only [IntKind.wrap_u64]
    omega
  rw [e]
  refine ⟨G, ?_⟩
  have hl := Int.emod_lt_of_pos u (by omega : 0 < yh)
  have he := Int.emod_def u yh
  have hc : yh * (u / yh) = u / yh * yh := Int.mul_comm _ _
  omega

set_option maxRecDepth 100000 in
set_option maxHeartbeats 2000000 in
theorem div64_high (hi lo y : Int) (s : Nat) (Y yh yl u v d1 d0 g r : Int) (w : World) (h0 : 0 < hi) (l0 : 0 ≤ lo) (l1 : lo < 18446744073709551616) (hy : hi < y) (y1 : y < 18446744073709551616) (hs : s ≤ 63) (hS : Hid ((64 - (Lib.bitLen y.toNat : Int)) = s))
    (e0 : (y == 0) = false) (e1 : decide (y ≤ hi) = false) (e2 : (hi == 0) = false)
    (hY : Hid (IntKind.u64.wrap (y * 2 ^ s) = Y)) (hyh : Hid (Y / 4294967296 = yh)) (hyl : Hid (bits BinOp.and IntKind.u64 Y 4294967295 = yl))
    (hu : Hid (bits BinOp.or IntKind.u64 (IntKind.u64.wrap (hi * 2 ^ s)) (lo / 2 ^ (64 - s)) = u)) (hv : Hid (IntKind.u64.wrap (lo * 2 ^ s) = v))
    (hd1 : Hid (v / 4294967296 = d1)) (hd0 : Hid (bits BinOp.and IntKind.u64 v 4294967295 = d0)) (hg : Hid (u / yh = g)) (hr : Hid (IntKind.u64.wrap (u - IntKind.u64.wrap (g * yh)) = r))
    (yh0 : 2147483648 ≤ yh) (yh1 : yh < 4294967296) (yl0 : 0 ≤ yl) (yl1 : yl < 4294967296) (u0 : 0 ≤ u) (u1 : u < 18446744073709551616) (d10 : 0 ≤ d1) (d11 : d1 < 4294967296) (d00 : 0 ≤ d0) (d01 : d0 < 4294967296)
    (G1 : Guess u yh yl d1 g r) (r1 : r < 4294967296) (g0 : 0 ≤ g) (g1 : g ≤ 4294967297) (r0 : 0 ≤ r)
    (Y0 : 0 < Y) (Y1 : Y < 18446744073709551616) (uY : u < Y) (hYe : Hid (Y = yh * 4294967296 + yl)) :
    Calls Tryz.prog 132 #[.int .u64 hi, .int .u64 lo, .int .u64 y] w fun e w' => (∃ q1 q0 r : Int, Digit u Y d1 q1 ∧ Digit (u * 4294967296 + d1 - q1 * Y) Y d0 q0 ∧ e = .returned (.tuple #[.int .u64 (q1 * 4294967296 + q0), .int .u64 r])) ∧ ∃ n, w' = w.drewN n := by
  have s1 : (s : Int) ≤ 63 := by omega
  replace G1 := Lib.hid G1
  go_enter Tryz.func132, Tryz.ntmps132
  go_wp2_with fail
  refine (Tryz.bits_LeadingZeros64 y w (by omega) (by omega)).mono ?_
  rintro e w1 ⟨rfl, rfl⟩
  rw [hS.out]
  go_upto_region 9 with (fail)
  rw [hY.out]
  go_upto_region 12 with (fail)
  rw [hyh.out, hyl.out, hu.out]
  go_upto_region 13 with (fail)
  rw [hv.out]
  go_upto_region 15 with (fail)
  rw [hd1.out, hd0.out]
  go_upto_region 16 with (fail)
  rw [hg.out]
  go_upto_block 0 with (fail)
  rw [hr.out]
  clear hS hY hyh hyl hu hv hd1 hd0 hg hr
  go_cut [15] (fun s15 wc => ∃ q : Int, Digit u Y d1 q ∧ s15 = .int .u64 q ∧ wc = w1)
  case first =>
    go_wp2_with fail
    go_loop [15, 16] (fun a b => ∃ q r : Int, Guess u yh yl d1 q r ∧ r < 4294967296 ∧ a = .int .u64 q ∧ b = .int .u64 r) (fun a _ => (intOf a).toNat)
    case atStart => exact ⟨g, r, G1.out, r1, rfl, rfl⟩
    case round =>
      clear G1 r1 g0 g1 r0
      obtain ⟨q, r, G, r1, rfl, rfl⟩ := hrel
      have q0 := G.q0
      have q1 := G.q1
      have r0 := G.r0
      replace G := Lib.hid G
      by_cases c1 : 4294967296 ≤ q
      · obtain ⟨Gn, qn⟩ := guess_next hYe.out G.out u0 d10 (by omega) Y0 uY d11 (.inl c1)
        replace Gn := Lib.hid Gn
        by_cases c2 : 4294967296 ≤ r + yh
        · go_wp2_with fail
          go_meet
          exact ⟨q - 1, digit_leave hYe.out Gn.out qn d10 d11 yl0 yl1 c2 Y0 uY, rfl, rfl⟩
        · go_wp2_with fail
          exact ⟨⟨q - 1, r + yh, Gn.out, by omega, rfl, rfl⟩, by simp [intOf]; omega⟩
      · obtain ⟨m0, m1⟩ := small_mul q0 (by omega) yl0 yl1
        by_cases c3 : 4294967296 * r + d1 < q * yl
        · obtain ⟨Gn, qn⟩ := guess_next hYe.out G.out u0 d10 (by omega) Y0 uY d11 (.inr c3)
          replace Gn := Lib.hid Gn
          have qp : 0 ≤ q - 1 := Gn.out.q0
          by_cases c2 : 4294967296 ≤ r + yh
          · go_wp2_with fail
            go_meet
            exact ⟨q - 1, digit_leave hYe.out Gn.out qn d10 d11 yl0 yl1 c2 Y0 uY, rfl, rfl⟩
          · go_wp2_with fail
            exact ⟨⟨q - 1, r + yh, Gn.out, by omega, rfl, rfl⟩, by simp [intOf]; omega⟩
        · go_wp2_with fail
          go_meet
          exact ⟨q, digit_done hYe.out G.out d11 (by omega) Y0 uY, rfl, rfl⟩
  case rest =>
    clear G1 r1 g0 g1 r0
    obtain ⟨q1, D1, rfl, rfl⟩ := hcut
    have q10 := D1.q0
    have q11 := D1.q1
    replace D1 := Lib.hid D1
    obtain ⟨m, hm⟩ : ∃ m, m = u * 4294967296 + d1 - q1 * Y := ⟨_, rfl⟩
    obtain ⟨m0, mY, hmw⟩ := rest_bd D1.out hm Y1
    obtain ⟨g, r, hg, hr, G1, r1⟩ := first_bd m yh yl d0 m0 (by omega) yh0 yh1 yl0 yl1 (by rw [← hYe.out]; exact mY) d01
    replace hm := Lib.hid hm
    replace hmw := Lib.hid hmw
    replace hg := Lib.hid hg
    replace hr := Lib.hid hr
    have g0 := G1.q0
    have g1 := G1.q1
    have r0 := G1.r0
    replace G1 := Lib.hid G1
    go_upto_region 22 with (fail)
    rw [hmw.out]
    go_upto_region 23 with (fail)
    rw [hg.out]
    go_upto_block 2 with (fail)
    rw [hr.out]
    clear hmw hg hr
    go_cut [18] (fun s18 wc' => ∃ q : Int, Digit m Y d0 q ∧ s18 = .int .u64 q ∧ wc' = wc)
    case first =>
      go_wp2_with fail
      go_loop [16, 18] (fun b a => ∃ q r : Int, Guess m yh yl d0 q r ∧ r < 4294967296 ∧ a = .int .u64 q ∧ b = .int .u64 r) (fun _ a => (intOf a).toNat)
      case atStart => exact ⟨g, r, G1.out, r1, rfl, rfl⟩
      case round =>
        clear G1 r1 g0 g1 r0
        obtain ⟨q, r, G, r1, rfl, rfl⟩ := hrel
        have q0 := G.q0
        have q1 := G.q1
        have r0 := G.r0
        replace G := Lib.hid G
        by_cases c1 : 4294967296 ≤ q
        · obtain ⟨Gn, qn⟩ := guess_next hYe.out G.out m0 d00 (by omega) Y0 mY d01 (.inl c1)
          replace Gn := Lib.hid Gn
          by_cases c2 : 4294967296 ≤ r + yh
          · go_wp2_with fail
            go_meet
            exact ⟨q - 1, digit_leave hYe.out Gn.out qn d00 d01 yl0 yl1 c2 Y0 mY, rfl, rfl⟩
          · go_wp2_with fail
            exact ⟨⟨q - 1, r + yh, Gn.out, by omega, rfl, rfl⟩, by simp [intOf]; omega⟩
        · obtain ⟨n0, n1⟩ := small_mul q0 (by omega) yl0 yl1
          by_cases c3 : 4294967296 * r + d0 < q * yl
          · obtain ⟨Gn, qn⟩ := guess_next hYe.out G.out m0 d00 (by omega) Y0 mY d01 (.inr c3)
            replace Gn := Lib.hid Gn
            have qp : 0 ≤ q - 1 := Gn.out.q0
            by_cases c2 : 4294967296 ≤ r + yh
            · go_wp2_with fail
              go_meet
              exact ⟨q - 1, digit_leave hYe.out Gn.out qn d00 d01 yl0 yl1 c2 Y0 mY, rfl, rfl⟩
            · go_wp2_with fail
              exact ⟨⟨q - 1, r + yh, Gn.out, by omega, rfl, rfl⟩, by simp [intOf]; omega⟩
          · go_wp2_with fail
            go_meet
            exact ⟨q, digit_done hYe.out G.out d01 (by omega) Y0 mY, rfl, rfl⟩
    case rest =>
      clear G1 r1 g0 g1 r0
      obtain ⟨q0, D0, rfl, rfl⟩ := hcut
      have q00 := D0.q0
      have q01 := D0.q1
      replace D0 := Lib.hid D0
      go_wp2_with fail
      go_ret2
      exact ⟨⟨q1, q0, _, D1.out, by rw [← hm.out]; exact D0.out, rfl⟩, 0, rfl⟩

/-- what Div64 returns: the quotient; of what is left nothing is said -/
def Quot64 (q : Int) (w : World) (e : Ending) (w' : World) : Prop := (∃ r : Int, e = .returned (.tuple #[.int .u64 q, .int .u64 r])) ∧ ∃ n, w' = w.drewN n

theorem div64_any (hi lo y : Int) (w : World) (h0 : 0 ≤ hi) (l0 : 0 ≤ lo) (l1 : lo < 18446744073709551616) (hy : hi < y) (y1 : y < 18446744073709551616) :
    Calls Tryz.prog 132 #[.int .u64 hi, .int .u64 lo, .int .u64 y] w (Quot64 ((hi * 18446744073709551616 + lo) / y) w) := by
  have e0 : (y == 0) = false := by rw [beq_eq_false_iff_ne]; omega
  by_cases hz : hi = 0
  · subst hz
    refine (div64_low lo y w l0 l1 hy y1 e0 (by simp; omega)).mono fun e w' ⟨he, hw⟩ => ⟨⟨lo % y, ?_⟩, hw⟩
    rw [he, Int.zero_mul, Int.zero_add]
  · obtain ⟨s, t, e, hs, hS, ht, he, t1, e1, hte, yt0, yt1⟩ := shift_spec y (by omega) y1
    obtain ⟨a0, a1, a2, a3, a4⟩ := moved hi lo y t e h0 l0 l1 hy t1 e1 hte
    have hY : IntKind.u64.wrap (y * 2 ^ s) = y * t := by rw [ht, IntKind.wrap_u64]; omega
    have hu : bits BinOp.or IntKind.u64 (IntKind.u64.wrap (hi * 2 ^ s)) (lo / 2 ^ (64 - s)) = hi * t + lo / e := by
      rw [ht, he, wrap_u64' (hi * t) a2 (by omega)]
      exact or_add hi (lo / e) s t ht h0 a0 a1 (by omega) (by omega)
    have hv : IntKind.u64.wrap (lo * 2 ^ s) = lo * t % 18446744073709551616 := by rw [ht, IntKind.wrap_u64]
    generalize hYg : y * t = Y at *
    generalize hug : hi * t + lo / e = u at *
    generalize hvg : lo * t % 18446744073709551616 = v at *
    have v0 : 0 ≤ v ∧ v < 18446744073709551616 := by omega
    obtain ⟨g, r, hg, hr, G1, r1⟩ := first_bd u (Y / 4294967296) (Y % 4294967296) (v / 4294967296) (by omega) (by omega) (by omega) (by omega) (by omega) (by omega) (by omega) (by omega)
    refine (div64_high hi lo y s Y (Y / 4294967296) (Y % 4294967296) u v (v / 4294967296) (v % 4294967296) g r w (by omega) l0 l1 hy y1 hs hS e0 (by simp; omega) (by rw [beq_eq_false_iff_ne]; omega)
      hY rfl (and_mask Y (by omega) (by omega)) hu hv rfl (and_mask v v0.1 v0.2) hg hr (by omega) (by omega) (by omega) (by omega) (by omega) (by omega) (by omega) (by omega) (by omega) (by omega)
      G1 r1 G1.q0 G1.q1 G1.r0 (by omega) (by omega) a3 (by show Y = _; omega)).mono ?_
    rintro e' w' ⟨⟨q1, q0, r', D1, D0, rfl⟩, hw⟩
    refine ⟨⟨r', ?_⟩, hw⟩
    have key := two_digits rfl D0
    rw [show v / 4294967296 * 4294967296 + v % 4294967296 = v from by omega, a4, ← hYg, Int.mul_ediv_mul_of_pos_left _ _ (by omega)] at key
    rw [key]
end Go.Proofs.YtiehbbhjpcnbnaaGreat
namespace Go.Proofs.YtiehbbhjpcnbnaaGreat
open Go.RowKit
set_option linter.unusedVariables false

theorem below_drewN {B : Nat} {a w : World} (h : Below B a w) (n : Nat) : Below B a (w.drewN n) := ⟨h.os, h.tape, h.output, h.size, h.block⟩

/-- the whole number about a times b by c, down or up -/
def muldiv (a b c : Int) (up : Bool) : Int := if up then -(-(a * b) / c) else a * b / c

theorem neg_div (P c : Int) (hc : 1 ≤ c) : -(-P / c) = (P + (c - 1)) / c := by
  have h1 := Int.emod_nonneg (-P) (by omega : c ≠ 0)
  have h2 := Int.emod_lt_of_pos (-P) (by omega : 0 < c)
  have h3 := Int.emod_def (-P) c
  symm
  refine div_of (r := P + (c - 1) + -P / c * c) ?_ ?_ ?_
  · have : c * (-P / c) = -P / c * c := Int.mul_comm _ _
    omega
  · have : c * (-P / c) = -P / c * c := Int.mul_comm _ _
    omega
  · rw [Int.neg_mul]; omega

theorem abs_mul (a b : Int) : absI a * absI b = if (decide (a < 0) != decide (b < 0)) then -(a * b) else a * b := by
  unfold absI
  by_cases ha : a < 0 <;> by_cases hb : b < 0 <;> simp [ha, hb, Int.neg_mul, Int.mul_neg]

theorem muldiv_eq (a b c : Int) (up below : Bool) (hc : 1 ≤ c) (hb : (decide (a < 0) != decide (b < 0)) = below) :
    muldiv a b c up = if below then -((absI a * absI b + if (up != below) then c - 1 else 0) / c) else (absI a * absI b + if (up != below) then c - 1 else 0) / c := by
  rw [abs_mul, hb]
  unfold muldiv
  cases up <;> cases below <;> simp
  · rw [← neg_div _ _ hc, Int.neg_neg, Int.neg_neg]
  · rw [neg_div _ _ hc]

theorem abs_mul_bd (a b : Int) (a0 : -9223372036854775808 ≤ a) (a1 : a ≤ 9223372036854775807) (b0 : -9223372036854775808 ≤ b) (b1 : b ≤ 9223372036854775807) :
    0 ≤ absI a * absI b ∧ absI a * absI b ≤ 85070591730234615865843651857942052864 := by
  obtain ⟨m0, m1⟩ := absI_bd a a0 a1
  obtain ⟨n0, n1⟩ := absI_bd b b0 b1
  refine ⟨Int.mul_nonneg m0 n0, ?_⟩
  have h1 : absI a * absI b ≤ 9223372036854775808 * absI b := Int.mul_le_mul_of_nonneg_right m1 n0
  omega

/-- with a sign -/
def sgn (n : Bool) (q : Int) : Int := if n then -q else q
theorem high_of (D : Int) (D0 : 0 ≤ D) (D1 : D < 170141183460469231731687303715884105728) : wh D * 18446744073709551616 + wl D = D := by unfold wh wl; omega
theorem high_over (D c : Int) (n : Bool) (c0 : 1 ≤ c) (h : c * 18446744073709551616 ≤ D) : 0 = fitV (sgn n (D / c)) ∧ 3 = fitE (sgn n (D / c)) := by
  have h1 : 18446744073709551616 ≤ D / c := Int.le_ediv_of_mul_le (by omega) (by omega)
  apply fit_no
  unfold sgn
  cases n <;> simp <;> omega
theorem quot_bd (D c : Int) (D0 : 0 ≤ D) (c0 : 1 ≤ c) (h : D < c * 18446744073709551616) : 0 ≤ D / c ∧ D / c < 18446744073709551616 :=
  ⟨Int.ediv_nonneg D0 (by omega), Int.ediv_lt_of_lt_mul (by omega) (by omega)⟩

set_option maxRecDepth 100000 in
set_option maxHeartbeats 2000000 in
theorem muldiv_walk (a b c D P : Int) (up sa sb n m : Bool) (w : World) (a0 : -9223372036854775808 ≤ a) (a1 : a ≤ 9223372036854775807) (b0 : -9223372036854775808 ≤ b) (b1 : b ≤ 9223372036854775807) (c0 : 1 ≤ c) (c1 : c ≤ 9223372036854775807)
    (ha : decide (a < 0) = sa) (hb : decide (b < 0) = sb) (hlt : decide (c < 1) = false) (hn : Hid ((!(sa == sb)) = n)) (hm : Hid ((!(up == n)) = m)) (hP : Hid (absI a * absI b = P))
    (hD : Hid (D = P + if m then c - 1 else 0)) (D0 : 0 ≤ D) (D1 : D < 170141183460469231731687303715884105728) :
    Calls Tryz.prog 127 #[.int .i64 a, .int .i64 b, .int .i64 c, .bool up] w fun e w' => e = .returned (.tuple #[.int .i64 (fitV (sgn n (D / c))), .int .i64 (fitE (sgn n (D / c)))]) ∧ Below w.heap.size w w' := by
  obtain ⟨m0, m1⟩ := absI_bd a a0 a1
  obtain ⟨n0, n1⟩ := absI_bd b b0 b1
  go_enter Tryz.func127, Tryz.ntmps127
  go_wp2_with fail
  refine (magnitude_any a _ a0 a1).mono ?_
  rintro e w1 ⟨rfl, rfl⟩
  go_wp2_with fail
  refine (magnitude_any b _ b0 b1).mono ?_
  rintro e w1 ⟨rfl, rfl⟩
  go_wp2_with fail
  refine (product_any (absI a) (absI b) _ m0 (by omega) n0 (by omega)).mono ?_
  rintro e w1 ⟨rfl, hb1⟩
  simp only [wd]
  go_upto_region 6 with (fail)
  rw [hP.out, hn.out]
  go_upto_if 31 with (fail)
  rw [hm.out]
  clear ha hb m0 m1 n0 n1 hP hn hm
  have z1 := hb1.size
  replace hb1 := Lib.hid hb1
  go_cut [] (fun wc => wc.cell? ⟨w1.heap.size, 0, none⟩ = some (.int .u64 (wh D)) ∧ wc.cell? ⟨w1.heap.size, 1, none⟩ = some (.int .u64 (wl D)) ∧ Below w1.heap.size w1 wc)
  case first =>
    cases m
    · go_wp2_with fail
      go_meet
      have e : D = P := by rw [hD.out]; simp
      rw [e]
      exact ⟨by go_simp, by go_simp, (Below.refl _ _).alloc (Nat.le_refl _) _⟩
    · have e : P + (c - 1) = D := by rw [hD.out]; simp
      replace e := Lib.hid e
      go_wp2_with fail
      refine (plus_r P (c - 1) _ _ _ (wh_small (c - 1) (by omega) (by omega)).1 (wh_small (c - 1) (by omega) (by omega)).2).mono ?_
      rintro e' w2 ⟨rfl, hb2⟩
      rw [e.out]
      have hx : w2.cell? ⟨w1.heap.size, 0, none⟩ = some (.int .u64 (wh P)) := by rw [(bcell hb2).1 _ _ (by simp)]; go_simp
      have hy : w2.cell? ⟨w1.heap.size, 1, none⟩ = some (.int .u64 (wl P)) := by rw [(bcell hb2).1 _ _ (by simp)]; go_simp
      have fx : w2.frozen? ⟨w1.heap.size, 0, none⟩ = false := by rw [(bcell hb2).2 _ _ (by simp)]; go_simp
      have fy : w2.frozen? ⟨w1.heap.size, 1, none⟩ = false := by rw [(bcell hb2).2 _ _ (by simp)]; go_simp
      replace hb2 := Lib.hid hb2
      go_wp2_with fail
      go_meet
      exact ⟨by go_simp, by go_simp, ((((Below.refl _ _).alloc (Nat.le_refl _) _).trans (hb2.out.mono (by simp))).setCell (by simp) _).setCell (by simp) _⟩
  case rest =>
    obtain ⟨hx, hy, hbc⟩ := hcut
    have hB := Lib.hid (hb1.out.trans (hbc.mono z1))
    clear hb1 hbc
    have eD := high_of D D0 D1
    have t0 := wh_bd D
    have t1 := wl_bd D
    by_cases hc : c ≤ wh D
    · have hfin := Lib.hid (high_over D c n c0 (by omega))
      clear eD
      go_wp2_with fail
      go_ret2
      exact ⟨ret_two hfin.out.1 hfin.out.2, hB.out⟩
    · have hq := quot_bd D c D0 c0 (by omega)
      replace eD := Lib.hid eD
      obtain ⟨q0, q1⟩ := hq
      go_wp2_with fail
      refine (div64_any (wh D) (wl D) c _ t0.1 t1.1 t1.2 (by omega) (by omega)).mono ?_
      rintro e w2 ⟨⟨r, rfl⟩, k, rfl⟩
      rw [eD.out]
      go_wp2_with fail
      cases n
      · refine (signed_pos (D / c) _ q0 q1).mono ?_
        rintro e w3 ⟨rfl, rfl⟩
        go_wp2_with fail
        go_ret2
        exact ⟨rfl, hB.out.trans (below_drewN (Below.refl _ _) k)⟩
      · refine (signed_neg (D / c) _ q0 q1).mono ?_
        rintro e w3 ⟨rfl, rfl⟩
        go_wp2_with fail
        go_ret2
        exact ⟨rfl, hB.out.trans (below_drewN (Below.refl _ _) k)⟩

theorem muldiv_any (a b c : Int) (up : Bool) (w : World) (a0 : -9223372036854775808 ≤ a) (a1 : a ≤ 9223372036854775807) (b0 : -9223372036854775808 ≤ b) (b1 : b ≤ 9223372036854775807) (c0 : 1 ≤ c) (c1 : c ≤ 9223372036854775807) :
    Calls Tryz.prog 127 #[.int .i64 a, .int .i64 b, .int .i64 c, .bool up] w fun e w' => e = .returned (.tuple #[.int .i64 (fitV (muldiv a b c up)), .int .i64 (fitE (muldiv a b c up))]) ∧ Below w.heap.size w w' := by
  obtain ⟨p0, p1⟩ := abs_mul_bd a b a0 a1 b0 b1
  have e1 : ∀ x y : Bool, (!(x == y)) = (x != y) := fun _ _ => rfl
  have hm := muldiv_eq a b c up _ c0 rfl
  rw [hm]
  exact muldiv_walk a b c _ _ up _ _ _ _ w a0 a1 b0 b1 c0 c1 rfl rfl (by simp; omega) (e1 _ _) (e1 _ _) rfl rfl (by split <;> omega) (by split <;> omega)

set_option maxHeartbeats 400000 in
theorem muldiv_arg (a b c : Int) (up : Bool) (w : World) (c0 : c < 1) :
    Calls Tryz.prog 127 #[.int .i64 a, .int .i64 b, .int .i64 c, .bool up] w fun e w' => e = .returned (.tuple #[.int .i64 0, .int .i64 1]) ∧ w = w' := by
  go_enter Tryz.func127, Tryz.ntmps127
  go_wp2_with fail
  go_ret2
  exact ⟨rfl, rfl⟩

theorem muldiv_one (a b : Int) : muldiv a b 1 false = a * b := by unfold muldiv; simp
end Go.Proofs.YtiehbbhjpcnbnaaGreat
namespace Go.Proofs.YtiehbbhjpcnbnaaGreat
open Go.RowKit
set_option linter.unusedVariables false

/-- an amount -/
def Amt (z : Int) : Prop := -9223372036854775808 ≤ z ∧ z ≤ 9223372036854775807
/-- a slice's elements, in a world -/
def Seq64 (w : World) (a : Option Addr) (len : Nat) (zs : List Int) : Prop :=
  zs.length = len ∧ (∀ i, Amt (zs.getD i 0)) ∧ len ≤ 4611686018427387904 ∧
    (len = 0 ∨ ∃ b off, a = some ⟨b, off, none⟩ ∧ b < w.heap.size ∧ ∀ i, i < len → w.cell? ⟨b, off + i, none⟩ = some (.int .i64 (zs.getD i 0)))
theorem Seq64.kept {w w' : World} {a : Option Addr} {len : Nat} {zs : List Int} (h : Seq64 w a len zs) (hb : Below w.heap.size w w') : Seq64 w' a len zs := by
  obtain ⟨h1, h2, h3, h4⟩ := h
  refine ⟨h1, h2, h3, ?_⟩
  rcases h4 with h4 | ⟨b, off, e, hlt, hc⟩
  · exact .inl h4
  · exact .inr ⟨b, off, e, Nat.lt_of_lt_of_le hlt hb.size, fun i hi => (hb.cell (p := ⟨b, off + i, none⟩) hlt).trans (hc i hi)⟩

/-- a and each, one after the other -/
def chainL (a : Int) : List Int → Int × Int
  | [] => (a, 0)
  | b :: r => if -9223372036854775808 ≤ a + b ∧ a + b ≤ 9223372036854775807 then chainL (a + b) r else (0, 3)
def sumL : List Int → Int
  | [] => 0
  | b :: r => b + sumL r
theorem sumL_append (l r : List Int) : sumL (l ++ r) = sumL l + sumL r := by
  induction l with
  | nil => simp [sumL]
  | cons a l ih => simp only [List.cons_append, sumL, ih]; omega
theorem take_one (zs : List Int) (k : Nat) (h : k < zs.length) : zs.take (k + 1) = zs.take k ++ [zs.getD k 0] := by
  rw [List.take_succ_eq_append_getElem h]; simp [List.getD, h]
theorem drop_one (zs : List Int) (k : Nat) (h : k < zs.length) : zs.drop k = zs.getD k 0 :: zs.drop (k + 1) := by
  rw [List.drop_eq_getElem_cons h]; simp [List.getD, h]
theorem sum_take (zs : List Int) (k : Nat) (h : k < zs.length) : sumL (zs.take (k + 1)) = sumL (zs.take k) + zs.getD k 0 := by
  rw [take_one zs k h, sumL_append]; simp [sumL]
theorem sum_bd (zs : List Int) (hz : ∀ i, Amt (zs.getD i 0)) : ∀ k, k ≤ zs.length → -9223372036854775808 * (k : Int) ≤ sumL (zs.take k) ∧ sumL (zs.take k) ≤ 9223372036854775808 * (k : Int)
  | 0, _ => by simp [sumL]
  | k + 1, h => by
    obtain ⟨h1, h2⟩ := sum_bd zs hz k (by omega)
    obtain ⟨h3, h4⟩ := hz k
    rw [sum_take zs k (by omega)]
    omega

set_option maxHeartbeats 1000000 in
theorem chain_any (a : Int) (p : Option Addr) (len cap : Nat) (zs : List Int) (w : World) (ha : Amt a) (hs : Seq64 w p len zs) :
    Calls Tryz.prog 128 #[.int .i64 a, .slice p len cap] w fun e w' => e = .returned (.tuple #[.int .i64 (chainL a zs).1, .int .i64 (chainL a zs).2]) ∧ Below w.heap.size w w' := by
  obtain ⟨hl, hz, hm, hcells⟩ := hs
  replace hl := Lib.hid hl
  replace hz := Lib.hid hz
  replace hcells := Lib.hid hcells
  replace ha := Lib.hid ha
  go_enter Tryz.func128, Tryz.ntmps128
  go_wp2_with fail
  go_loopw [6, 14] (fun t i wr => ∃ (k : Nat) (s : Int), k ≤ len ∧ i = .int .i64 k ∧ t = .int .i64 s ∧ Amt s ∧ chainL s (zs.drop k) = chainL a zs ∧ Below w.heap.size w wr) (fun _ i _ => len - (intOf i).toNat)
  case atStart => exact ⟨0, a, by omega, rfl, rfl, ha.out, by simp, Below.refl _ _⟩
  case round =>
    obtain ⟨k, s, hk, rfl, rfl, hs, hch, hbel⟩ := hrel
    obtain ⟨s0, s1⟩ := hs
    replace hch := Lib.hid hch
    by_cases hlt : k < len
    · obtain ⟨b, off, rfl, hblt, hc⟩ := hcells.out.resolve_left (by omega)
      have hcell : wr.cell? ⟨b, off + k, none⟩ = some (.int .i64 (zs.getD k 0)) := (hbel.cell (p := ⟨b, off + k, none⟩) hblt).trans (hc k hlt)
      have hd := drop_one zs k (by rw [hl.out]; exact hlt)
      obtain ⟨z0, z1⟩ := hz.out k
      generalize hzk : zs.getD k 0 = z at *
      replace hd := Lib.hid hd
      replace hzk := Lib.hid hzk
      replace hbel := Lib.hid hbel
      clear hc
      go_wp2_with fail
      refine (add_any s z _ s0 s1 z0 z1).mono ?_
      rintro e w1 ⟨rfl, hb1⟩
      by_cases hf : -9223372036854775808 ≤ s + z ∧ s + z ≤ 9223372036854775807
      · obtain ⟨f1, f2⟩ := hf
        rw [← (fit_yes (s + z) f1 f2).1, ← (fit_yes (s + z) f1 f2).2]
        go_wp2_with fail
        go_roundw
        case rel =>
          refine ⟨k + 1, s + z, by omega, by go_num, rfl, ⟨f1, f2⟩, ?_, hbel.out.trans (hb1.mono hbel.out.size)⟩
          rw [← hch.out, hd.out, chainL, if_pos ⟨f1, f2⟩]
        case measure => simp [intOf]; omega
      · rw [← (fit_no (s + z) (by omega)).1, ← (fit_no (s + z) (by omega)).2]
        go_wp2_with fail
        go_ret2
        refine ⟨?_, hbel.out.trans (hb1.mono hbel.out.size)⟩
        rw [← hch.out, hd.out, chainL, if_neg hf]
        rfl
    · go_wp2_with fail
      go_ret2
      refine ⟨?_, hbel⟩
      rw [← hch.out, List.drop_of_length_le (by rw [hl.out]; omega), chainL]
      rfl

set_option maxHeartbeats 1000000 in
theorem sum_any (p : Option Addr) (len cap : Nat) (zs : List Int) (w : World) (hs : Seq64 w p len zs) :
    Calls Tryz.prog 79 #[.slice p len cap] w fun e w' => e = .returned (.tuple #[.int .i64 (fitV (sumL zs)), .int .i64 (fitE (sumL zs))]) ∧ Below w.heap.size w w' := by
  obtain ⟨hl, hz, hm, hcells⟩ := hs
  replace hl := Lib.hid hl
  replace hz := Lib.hid hz
  replace hcells := Lib.hid hcells
  go_enter Tryz.func79, Tryz.ntmps79
  go_wp2_with fail
  go_loopw [9] (fun i wr => ∃ (k : Nat), k ≤ len ∧ i = .int .i64 k ∧ wr.cell? ⟨w.heap.size, 0, none⟩ = some (.int .u64 (wh (sumL (zs.take k)))) ∧ wr.cell? ⟨w.heap.size, 1, none⟩ = some (.int .u64 (wl (sumL (zs.take k)))) ∧
    wr.frozen? ⟨w.heap.size, 0, none⟩ = false ∧ wr.frozen? ⟨w.heap.size, 1, none⟩ = false ∧ w.heap.size < wr.heap.size ∧ Below w.heap.size w wr) (fun i _ => len - (intOf i).toNat)
  case atStart => exact ⟨0, by omega, rfl, by go_simp; rfl, by go_simp; rfl, by go_simp, by go_simp, by simp, (Below.refl _ _).alloc (Nat.le_refl _) _⟩
  case round =>
    obtain ⟨k, hk, rfl, c0, c1, f0, f1, hsz, hbel⟩ := hrel
    by_cases hlt : k < len
    · obtain ⟨b, off, rfl, hblt, hc⟩ := hcells.out.resolve_left (by omega)
      have hcell : wr.cell? ⟨b, off + k, none⟩ = some (.int .i64 (zs.getD k 0)) := (hbel.cell (p := ⟨b, off + k, none⟩) hblt).trans (hc k hlt)
      have hd := sum_take zs k (by rw [hl.out]; exact hlt)
      obtain ⟨z0, z1⟩ := hz.out k
      generalize hzk : zs.getD k 0 = z at *
      generalize hS : sumL (zs.take k) = S at *
      replace hd := Lib.hid hd
      replace hzk := Lib.hid hzk
      replace hS := Lib.hid hS
      replace hbel := Lib.hid hbel
      clear hc
      go_wp2_with fail
      go_region_with (first
        | (go_at_call 90; refine (widen_w z _ z0 z1).mono ?_; rintro e w1 ⟨rfl, hb1⟩; simp only [wd]; have hz1 : w.heap.size < w1.heap.size := Nat.lt_of_lt_of_le hsz hb1.size
           have k0 := (hb1.cell (p := ⟨w.heap.size, 0, none⟩) hsz).trans c0; have k1 := (hb1.cell (p := ⟨w.heap.size, 1, none⟩) hsz).trans c1; have g0 := (hb1.frozen (p := ⟨w.heap.size, 0, none⟩) hsz).trans f0; have g1 := (hb1.frozen (p := ⟨w.heap.size, 1, none⟩) hsz).trans f1; replace hb1 := Lib.hid hb1)
        | (go_at_call 91; refine (plus_r S z _ _ _ rfl rfl).mono ?_; rintro e w2 ⟨rfl, hb2⟩; have hz2 : w.heap.size < w2.heap.size := Nat.lt_of_lt_of_le hz1 hb2.size
           have m0 := (hb2.cell (p := ⟨w.heap.size, 0, none⟩) hz1).trans k0; have m1 := (hb2.cell (p := ⟨w.heap.size, 1, none⟩) hz1).trans k1; have n0 := (hb2.frozen (p := ⟨w.heap.size, 0, none⟩) hz1).trans g0; have n1 := (hb2.frozen (p := ⟨w.heap.size, 1, none⟩) hz1).trans g1; replace hb2 := Lib.hid hb2))
      all_goals
        clear k0 k1 g0 g1 c0 c1 f0 f1 hcell
        go_wp2_with fail
        go_roundw
        case rel => exact ⟨k + 1, by omega, by go_num, by rw [hd.out]; go_simp, by rw [hd.out]; go_simp, by go_simp, by go_simp, by simpa using hz2, ((hbel.out.drew.trans ((hb1.out.mono (Nat.le_of_lt hsz)).trans (hb2.out.mono (Nat.le_of_lt hz1)))).setCell (Nat.le_refl _) _).setCell (Nat.le_refl _) _⟩
        case measure => simp [intOf]; omega
    · have hbd := sum_bd zs hz.out zs.length (Nat.le_refl _)
      have hkl : zs.take k = zs := List.take_of_length_le (by rw [hl.out]; omega)
      rw [hkl] at c0 c1
      rw [List.take_length, hl.out] at hbd
      clear hkl
      go_wp2_with fail
      refine (amount_w (sumL zs) _ (by omega) (by omega)).mono ?_
      rintro e w1 ⟨rfl, hb1⟩
      go_wp2_with fail
      go_ret2
      exact ⟨rfl, hbel.trans (hb1.mono (Nat.le_of_lt hsz))⟩
end Go.Proofs.YtiehbbhjpcnbnaaGreat
namespace Go.Proofs.YtiehbbhjpcnbnaaGreat
open Go.RowKit
set_option linter.unusedVariables false

theorem chain_trans {a b c : World} (h : Below a.heap.size a b) (k : Below b.heap.size b c) : Below a.heap.size a c := h.trans (k.mono h.size)

theorem amt_getD (zs : List Int) (h : ∀ z ∈ zs, Amt z) (i : Nat) : Amt (zs.getD i 0) := by
  by_cases hi : i < zs.length
  · rw [List.getD_eq_getElem?_getD, List.getElem?_eq_getElem hi]; exact h _ (List.getElem_mem hi)
  · rw [List.getD_eq_getElem?_getD, List.getElem?_eq_none (by omega)]; exact ⟨by decide, by decide⟩
theorem seq3 (w : World) (x y z : Int) (hx : Amt x) (hy : Amt y) (hz : Amt z) : Seq64 (w.alloc (.cells #[.int .i64 x, .int .i64 y, .int .i64 z] 2)) (some ⟨w.heap.size, 0, none⟩) 3 [x, y, z] := by
  refine ⟨rfl, amt_getD _ (by simp; exact ⟨hx, hy, hz⟩), by decide, .inr ⟨w.heap.size, 0, rfl, by simp, fun i hi => ?_⟩⟩
  rcases (by omega : i = 0 ∨ i = 1 ∨ i = 2) with rfl | rfl | rfl <;> go_simp <;> rfl
theorem seq2 (w : World) (x y : Int) (hx : Amt x) (hy : Amt y) : Seq64 (w.alloc (.cells #[.int .i64 x, .int .i64 y] 2)) (some ⟨w.heap.size, 0, none⟩) 2 [x, y] := by
  refine ⟨rfl, amt_getD _ (by simp; exact ⟨hx, hy⟩), by decide, .inr ⟨w.heap.size, 0, rfl, by simp, fun i hi => ?_⟩⟩
  rcases (by omega : i = 0 ∨ i = 1) with rfl | rfl <;> go_simp <;> rfl

end Go.Proofs.YtiehbbhjpcnbnaaGreat
namespace Go.Proofs.YtiehbbhjpcnbnaaGreat
open Go.RowKit
set_option linter.unusedVariables false

/-- a currency -/
structure Cur where
  code : ByteArray
  rate : Int
  cut : Int
def Cur.zero : Cur := ⟨⟨#[]⟩, 0, 0⟩
/-- the currency of a place -/
def cAt (cs : List Cur) (i : Nat) : Cur := cs.getD i Cur.zero
def CurOk (c : Cur) : Prop := c.code.size ≤ 140737488351232 ∧ Amt c.rate ∧ Amt c.cut
/-- a table, in a world -/
def Tab (w : World) (p : Option Addr) (len : Nat) (cs : List Cur) : Prop :=
  cs.length = len ∧ (∀ i, CurOk (cAt cs i)) ∧ len ≤ 140737488351232 ∧
    (len = 0 ∨ ∃ b off, p = some ⟨b, off, none⟩ ∧ b < w.heap.size ∧ ∀ i, i < len →
      w.cell? ⟨b, off + i * 3, none⟩ = some (.string (cAt cs i).code) ∧ w.cell? ⟨b, off + i * 3 + 1, none⟩ = some (.int .i64 (cAt cs i).rate) ∧
        w.cell? ⟨b, off + i * 3 + 2, none⟩ = some (.int .i64 (cAt cs i).cut))
theorem Tab.kept {w w' : World} {p : Option Addr} {len : Nat} {cs : List Cur} (h : Tab w p len cs) (hb : Below w.heap.size w w') : Tab w' p len cs := by
  obtain ⟨h1, h2, h3, h4⟩ := h
  refine ⟨h1, h2, h3, ?_⟩
  rcases h4 with h4 | ⟨b, off, e, hlt, hc⟩
  · exact .inl h4
  · refine .inr ⟨b, off, e, Nat.lt_of_lt_of_le hlt hb.size, fun i hi => ?_⟩
    obtain ⟨c0, c1, c2⟩ := hc i hi
    exact ⟨(hb.cell (p := ⟨b, off + i * 3, none⟩) hlt).trans c0, (hb.cell (p := ⟨b, off + i * 3 + 1, none⟩) hlt).trans c1, (hb.cell (p := ⟨b, off + i * 3 + 2, none⟩) hlt).trans c2⟩

theorem cAt_mem {cs : List Cur} {i : Nat} (h : i < cs.length) : cAt cs i ∈ cs := by
  unfold cAt; rw [List.getD_eq_getElem?_getD, List.getElem?_eq_getElem h]; exact List.getElem_mem h
theorem take_cur (cs : List Cur) (k : Nat) (h : k < cs.length) : cs.take (k + 1) = cs.take k ++ [cAt cs k] := by
  rw [List.take_succ_eq_append_getElem h]; simp [cAt, List.getD, h]

/-- how many letters there are -/
def szT (cs : List Cur) : Nat := (cs.map fun c => c.code.size).sum
def largeB (cs : List Cur) : Bool := decide (1000 < szT cs) || decide (20 < cs.length)
theorem sz_app (a b : List Cur) : szT (a ++ b) = szT a + szT b := by simp [szT]
theorem sz_take (cs : List Cur) (k : Nat) (h : k < cs.length) : szT (cs.take (k + 1)) = szT (cs.take k) + (cAt cs k).code.size := by
  rw [take_cur cs k h, sz_app]; simp [szT]
theorem sz_le (cs : List Cur) (k : Nat) : szT (cs.take k) ≤ szT cs := by
  have := sz_app (cs.take k) (cs.drop k)
  rw [List.take_append_drop] at this
  omega

theorem large_no {cs : List Cur} (h : largeB cs = false) : szT cs ≤ 1000 ∧ cs.length ≤ 20 := by
  unfold largeB at h
  simp at h
  exact h
end Go.Proofs.YtiehbbhjpcnbnaaGreat
namespace Go.Proofs.YtiehbbhjpcnbnaaGreat
open Go.RowKit
set_option linter.unusedVariables false

def Cur.val (c : Cur) : Value := .agg #[.string c.code, .int .i64 c.rate, .int .i64 c.cut]
/-- a byte is a capital letter -/
def capB (s : ByteArray) (i : Nat) : Prop := ∃ h : i < s.size, 65 ≤ (s[i]'h).toNat ∧ (s[i]'h).toNat ≤ 90
/-- three capital letters -/
def Cap3 (s : ByteArray) : Prop := s.size = 3 ∧ ∀ i, i < 3 → capB s i
open Classical in
/-- not three capital letters -/
noncomputable def missB (s : ByteArray) : Bool := decide (¬ Cap3 s)

theorem dec_cap (s : ByteArray) (pos : Nat) (h : pos < s.size) (hc : capB s pos) : Utf8.decode s pos = ((s[pos]'h).toNat, 1) := decode_ascii s pos h (by obtain ⟨_, h1, h2⟩ := hc; omega)
theorem dec_not (s : ByteArray) (pos : Nat) (h : pos < s.size) (hc : ¬ capB s pos) : (Utf8.decode s pos).1 < 65 ∨ 90 < (Utf8.decode s pos).1 := by
  by_cases ha : (s[pos]'h).toNat < 128
  · rw [decode_ascii s pos h ha]
    have : ¬ (65 ≤ (s[pos]'h).toNat ∧ (s[pos]'h).toNat ≤ 90) := fun k => hc ⟨h, k⟩
    simp only; omega
  · have := (decode_high s pos h (by omega)).1
    omega

set_option maxHeartbeats 1000000 in
set_option maxRecDepth 100000 in
theorem misspelt_any (c : Cur) (w : World) :
    Calls Tryz.prog 104 #[.agg #[.string c.code, .int .i64 c.rate, .int .i64 c.cut]] w fun e w' => e = .returned (.bool (missB c.code)) ∧ Below w.heap.size w w' := by
  obtain ⟨s, r, h⟩ := c
  simp only
  by_cases hs : s.size = 3
  · have hsz : ((s.size : Int) != 3) = false := by simp; omega
    have hsn : s.size ≤ 3 := by omega
    have hsg : 3 ≤ s.size := by omega
    clear hs
    go_enter Tryz.func104, Tryz.ntmps104
    go_wp2_with fail
    go_loopw [4] (fun _ wr => ∃ (pos : Nat), wr = (w.alloc (.cells #[.string s, .int .i64 r, .int .i64 h] 55)).iter s pos ∧ pos ≤ 3 ∧ ∀ i, i < pos → capB s i) (fun _ wr => 3 - wr.iterPos (w.heap.size + 1))
    case atStart => exact ⟨0, rfl, by omega, fun i hi => by omega⟩
    case round =>
      obtain ⟨pos, rfl, hp3, hall⟩ := hrel
      replace hall := Lib.hid hall
      have hbel : Below w.heap.size w ((w.alloc (.cells #[.string s, .int .i64 r, .int .i64 h] 55)).iter s pos) := ((Below.refl _ _).alloc (Nat.le_refl _) _).alloc (by simp) _
      replace hbel := Lib.hid hbel
      by_cases hp : pos < s.size
      · have hnx : ∀ ty, (Instr.next (.pointer (some ⟨w.heap.size + 1, 0, none⟩)) true ty).run Tryz.prog ((w.alloc (.cells #[.string s, .int .i64 r, .int .i64 h] 55)).iter s pos) = .ok (.tuple #[.bool true, .int .i64 pos, .int .i32 (Utf8.decode s pos).1]) ((w.alloc (.cells #[.string s, .int .i64 r, .int .i64 h] 55)).iter s (pos + (Utf8.decode s pos).2)) := fun ty => by
          have := run_next_any (P := Tryz.prog) (w.alloc (.cells #[.string s, .int .i64 r, .int .i64 h] 55)) s pos ty hp
          rw [World.size_alloc] at this
          exact this
        by_cases hc : capB s pos
        · rw [dec_cap s pos hp hc] at hnx
          have hb1 : 65 ≤ (s[pos]'hp).toNat ∧ (s[pos]'hp).toNat ≤ 90 := by obtain ⟨_, h⟩ := hc; exact h
          obtain ⟨hb1, hb2⟩ := hb1
          generalize (s[pos]'hp).toNat = u at *
          replace hc := Lib.hid hc
          simp only at hnx
          go_wp2_with fail
          go_roundw
          case rel =>
            refine ⟨pos + 1, rfl, by omega, fun i hi => ?_⟩
            by_cases e : i = pos
            · subst e; exact hc.out
            · exact hall.out i (by omega)
          case measure =>
            have e1 := World.iterPos_iter (w.alloc (.cells #[.string s, .int .i64 r, .int .i64 h] 55)) s
            rw [World.size_alloc] at e1
            rw [e1, e1]; omega
        · have hfin : missB s = true := by unfold missB; simp; exact fun h => absurd (h.2 pos (by omega)) hc
          have hd := dec_not s pos hp hc
          generalize (Utf8.decode s pos) = u at *
          obtain ⟨u, n⟩ := u
          simp only at hnx hd
          have hbel : Below w.heap.size w ((w.alloc (.cells #[.string s, .int .i64 r, .int .i64 h] 55)).iter s (pos + n)) := ((Below.refl _ _).alloc (Nat.le_refl _) _).alloc (by simp) _
          replace hbel := Lib.hid hbel
          replace hfin := Lib.hid hfin
          clear hc
          rcases hd with hd | hd
          · have hz : (u : Int) < 65 := by omega
            go_wp2_with fail
            go_ret
            exact ⟨by rw [hfin.out]; rfl, hbel.out⟩
          · have hz : ¬ (u : Int) < 65 := by omega
            have hz' : (90 : Int) < (u : Int) := by omega
            go_wp2_with fail
            go_ret
            exact ⟨by rw [hfin.out]; rfl, hbel.out⟩
      · have hnx : ∀ ty, (Instr.next (.pointer (some ⟨w.heap.size + 1, 0, none⟩)) true ty).run Tryz.prog ((w.alloc (.cells #[.string s, .int .i64 r, .int .i64 h] 55)).iter s pos) = .ok (.tuple #[.bool false]) ((w.alloc (.cells #[.string s, .int .i64 r, .int .i64 h] 55)).iter s pos) := fun ty => by
          have := run_next_end (P := Tryz.prog) (w.alloc (.cells #[.string s, .int .i64 r, .int .i64 h] 55)) s pos ty hp
          rw [World.size_alloc] at this
          exact this
        have hfin : missB s = false := by unfold missB; simp; exact ⟨by omega, fun i hi => hall.out i (by omega)⟩
        replace hfin := Lib.hid hfin
        go_wp2_with fail
        go_ret
        exact ⟨by rw [hfin.out]; rfl, hbel.out⟩
  · have hsz : ((s.size : Int) != 3) = true := by simp; omega
    have hfin : missB s = true := by unfold missB; simp; exact fun h => absurd h.1 hs
    replace hfin := Lib.hid hfin
    clear hs
    go_enter Tryz.func104, Tryz.ntmps104
    go_wp2_with fail
    go_ret
    exact ⟨by rw [hfin.out]; rfl, (Below.refl _ _).alloc (Nat.le_refl _) _⟩


/-- a Rate or a Haircut out of its bounds -/
def oobB (c : Cur) : Bool := decide (c.rate < 1) || decide (100000000 < c.rate) || decide (c.cut < 0) || decide (10000 < c.cut)
def baseB (c : Cur) : Bool := decide (c.rate = 10000) && decide (c.cut = 0)

set_option maxHeartbeats 1000000 in
set_option maxRecDepth 100000 in
theorem oob_any (c : Cur) (w : World) :
    Calls Tryz.prog 106 #[.agg #[.string c.code, .int .i64 c.rate, .int .i64 c.cut]] w fun e w' => e = .returned (.bool (oobB c)) ∧ Below w.heap.size w w' := by
  obtain ⟨s, r, h⟩ := c
  simp only
  unfold oobB
  simp only
  by_cases h1 : r < 1
  · have z1 : decide (r < 1) = true := by simpa using h1
    go_enter Tryz.func106, Tryz.ntmps106
    go_wp2_with fail
    go_ret
    exact ⟨by simp <;> omega, (Below.refl _ _).alloc (Nat.le_refl _) _⟩
  · have z1 : decide (r < 1) = false := by simpa using h1
    by_cases h2 : 100000000 < r
    · have z2 : decide (100000000 < r) = true := by simpa using h2
      go_enter Tryz.func106, Tryz.ntmps106
      go_wp2_with fail
      go_ret
      exact ⟨by simp <;> omega, (Below.refl _ _).alloc (Nat.le_refl _) _⟩
    · have z2 : decide (100000000 < r) = false := by simpa using h2
      by_cases h3 : h < 0
      · have z3 : decide (h < 0) = true := by simpa using h3
        go_enter Tryz.func106, Tryz.ntmps106
        go_wp2_with fail
        go_ret
        exact ⟨by simp <;> omega, (Below.refl _ _).alloc (Nat.le_refl _) _⟩
      · have z3 : decide (h < 0) = false := by simpa using h3
        by_cases h4 : 10000 < h
        · have z4 : decide (10000 < h) = true := by simpa using h4
          go_enter Tryz.func106, Tryz.ntmps106
          go_wp2_with fail
          go_ret
          exact ⟨by simp <;> omega, (Below.refl _ _).alloc (Nat.le_refl _) _⟩
        · have z4 : decide (10000 < h) = false := by simpa using h4
          go_enter Tryz.func106, Tryz.ntmps106
          go_wp2_with fail
          go_ret
          exact ⟨by simp <;> omega, (Below.refl _ _).alloc (Nat.le_refl _) _⟩

set_option maxHeartbeats 1000000 in
set_option maxRecDepth 100000 in
theorem base_any (c : Cur) (w : World) :
    Calls Tryz.prog 107 #[.agg #[.string c.code, .int .i64 c.rate, .int .i64 c.cut]] w fun e w' => e = .returned (.bool (baseB c)) ∧ Below w.heap.size w w' := by
  obtain ⟨s, r, h⟩ := c
  simp only
  unfold baseB
  simp only
  by_cases h1 : r = 10000
  · subst h1
    by_cases h2 : h = 0
    · subst h2
      go_enter Tryz.func107, Tryz.ntmps107
      go_wp2_with fail
      go_ret
      exact ⟨by simp <;> omega, (Below.refl _ _).alloc (Nat.le_refl _) _⟩
    · have z2 : (h == 0) = false := by simpa using h2
      go_enter Tryz.func107, Tryz.ntmps107
      go_wp2_with fail
      go_ret
      exact ⟨by simp [h2], (Below.refl _ _).alloc (Nat.le_refl _) _⟩
  · have z1 : (r == 10000) = false := by simpa using h1
    go_enter Tryz.func107, Tryz.ntmps107
    go_wp2_with fail
    go_ret
    exact ⟨by simp [h1], (Below.refl _ _).alloc (Nat.le_refl _) _⟩
end Go.Proofs.YtiehbbhjpcnbnaaGreat
namespace Go.Proofs.YtiehbbhjpcnbnaaGreat
open Go.RowKit
set_option linter.unusedVariables false

/-- the first place of a code -/
def findIx (s : ByteArray) : List Cur → Option Nat
  | [] => none
  | c :: r => if c.code = s then some 0 else (findIx s r).map (· + 1)
theorem findIx_some (s : ByteArray) : ∀ (cs : List Cur) (k : Nat), k < cs.length → (cAt cs k).code = s → (∀ i, i < k → (cAt cs i).code ≠ s) → findIx s cs = some k
  | [], k, h, _, _ => by simp at h
  | c :: r, 0, _, h, _ => by
    have h' : c.code = s := h
    simp [findIx, h']
  | c :: r, k + 1, hl, h, hn => by
    have h0 : ¬ c.code = s := hn 0 (by omega)
    have ih := findIx_some s r k (by simpa using hl) h (fun i hi => hn (i + 1) (by omega))
    simp [findIx, h0, ih]
theorem findIx_none (s : ByteArray) : ∀ (cs : List Cur), (∀ i, i < cs.length → (cAt cs i).code ≠ s) → findIx s cs = none
  | [], _ => rfl
  | c :: r, hn => by
    have h0 : ¬ c.code = s := hn 0 (by simp)
    have ih := findIx_none s r (fun i hi => hn (i + 1) (by simpa using hi))
    simp [findIx, h0, ih]
theorem str_ne {a b : ByteArray} (h : ¬ a = b) : (a.toList == b.toList) = false := by
  rw [ByteArray.toList_eq, ByteArray.toList_eq, beq_eq_false_iff_ne]
  exact fun e => h (Go.WideShapes.bytes_inj e)
def findV (o : Option Nat) : Int := match o with | some k => k | none => 0

set_option maxHeartbeats 1000000 in
set_option maxRecDepth 100000 in
theorem find_any (p : Option Addr) (len cap : Nat) (cs : List Cur) (s : ByteArray) (w : World) (hs : Tab w p len cs) :
    Calls Tryz.prog 124 #[.slice p len cap, .string s] w fun e w' => e = .returned (.tuple #[.int .i64 (findV (findIx s cs)), .bool (findIx s cs).isSome]) ∧ Below w.heap.size w w' := by
  obtain ⟨hl, hz, hm, hcells⟩ := hs
  replace hl := Lib.hid hl
  replace hz := Lib.hid hz
  replace hcells := Lib.hid hcells
  go_enter Tryz.func124, Tryz.ntmps124
  go_wp2_with fail
  go_loopw [10] (fun i wr => ∃ k : Nat, k ≤ len ∧ i = .int .i64 k ∧ Below w.heap.size w wr ∧ ∀ i, i < k → (cAt cs i).code ≠ s) (fun i _ => len - (intOf i).toNat)
  case atStart => exact ⟨0, by omega, rfl, Below.refl _ _, fun i hi => by omega⟩
  case round =>
    obtain ⟨k, hk, rfl, hb, hall⟩ := hrel
    replace hall := Lib.hid hall
    by_cases hlt : k < len
    · obtain ⟨b, off, rfl, hblt, hc⟩ := hcells.out.resolve_left (by omega)
      obtain ⟨c0, c1, c2⟩ := hc k hlt
      rw [← hb.cell (p := ⟨b, off + k * 3, none⟩) hblt] at c0
      rw [← hb.cell (p := ⟨b, off + k * 3 + 1, none⟩) hblt] at c1
      rw [← hb.cell (p := ⟨b, off + k * 3 + 2, none⟩) hblt] at c2
      have hsz := hb.size
      clear hc
      replace hb := Lib.hid hb
      by_cases he : (cAt cs k).code = s
      · have hfin := Lib.hid (findIx_some s cs k (by rw [hl.out]; exact hlt) he hall.out)
        rw [he] at c0
        clear he
        go_wp2_with fail
        go_ret2
        exact ⟨by rw [hfin.out]; rfl, hb.out.alloc hsz _⟩
      · have hne := str_ne he
        replace he := Lib.hid he
        go_wp2_with fail
        go_roundw
        case rel =>
          refine ⟨k + 1, by omega, by go_num, hb.out.alloc hsz _, fun i hi => ?_⟩
          by_cases e : i = k
          · subst e; exact he.out
          · exact hall.out i (by omega)
        case measure => simp [intOf]; omega
    · have hfin := Lib.hid (findIx_none s cs (fun i hi => hall.out i (by rw [hl.out] at hi; omega)))
      replace hb := Lib.hid hb
      go_wp2_with fail
      go_ret2
      exact ⟨by rw [hfin.out]; rfl, hb.out⟩


/-- two Codes ahead of k, or of which one is, are the same -/
def Twice (cs : List Cur) (k : Nat) : Prop := ∃ j, j < k ∧ ∃ i, i < j ∧ (cAt cs i).code = (cAt cs j).code
open Classical in
noncomputable def twB (cs : List Cur) : Bool := decide (Twice cs cs.length)
theorem tw_yes {cs : List Cur} (h : Twice cs cs.length) : twB cs = true := by unfold twB; simp [h]
theorem tw_no {cs : List Cur} (h : ¬ Twice cs cs.length) : twB cs = false := by unfold twB; simp [h]

/-- the first place is the currency's own just if none ahead is the same -/
theorem find_own (cs : List Cur) (k : Nat) (hk : k < cs.length) (h : ∀ i, i < k → (cAt cs i).code ≠ (cAt cs k).code) : findV (findIx (cAt cs k).code cs) = k := by
  rw [findIx_some _ cs k hk rfl h]; rfl
theorem find_ahead (s : ByteArray) : ∀ (cs : List Cur) (i : Nat), i < cs.length → (cAt cs i).code = s → ∃ j, j ≤ i ∧ findIx s cs = some j
  | [], i, h, _ => by simp at h
  | c :: r, i, hi, h => by
    by_cases hc : c.code = s
    · exact ⟨0, by omega, by simp [findIx, hc]⟩
    · cases i with
      | zero => exact absurd h hc
      | succ i =>
        obtain ⟨j, hj, e⟩ := find_ahead s r i (by simpa using hi) h
        exact ⟨j + 1, by omega, by simp [findIx, hc, e]⟩
theorem find_other (cs : List Cur) (k : Nat) (hk : k < cs.length) (h : ∃ i, i < k ∧ (cAt cs i).code = (cAt cs k).code) : ∃ j : Nat, j < k ∧ findV (findIx (cAt cs k).code cs) = j := by
  obtain ⟨i, hi, e⟩ := h
  obtain ⟨j, hj, e2⟩ := find_ahead _ cs i (by omega) e
  exact ⟨j, by omega, by rw [e2]; rfl⟩

set_option maxHeartbeats 1000000 in
set_option maxRecDepth 100000 in
theorem twice_any (p : Option Addr) (len cap : Nat) (cs : List Cur) (w : World) (hs : Tab w p len cs) :
    Calls Tryz.prog 105 #[.slice p len cap] w fun e w' => e = .returned (.bool (twB cs)) ∧ Below w.heap.size w w' := by
  have hT := Lib.hid hs
  obtain ⟨hl, hz, hm, hcells⟩ := hs
  replace hl := Lib.hid hl
  replace hz := Lib.hid hz
  replace hcells := Lib.hid hcells
  go_enter Tryz.func105, Tryz.ntmps105
  go_wp2_with fail
  go_loopw [9] (fun i wr => ∃ k : Nat, k ≤ len ∧ i = .int .i64 k ∧ Below w.heap.size w wr ∧ ¬ Twice cs k) (fun i _ => len - (intOf i).toNat)
  case atStart => exact ⟨0, by omega, rfl, Below.refl _ _, fun ⟨j, hj, _⟩ => by omega⟩
  case round =>
    obtain ⟨k, hk, rfl, hb, hall⟩ := hrel
    replace hall := Lib.hid hall
    by_cases hlt : k < len
    · obtain ⟨b, off, rfl, hblt, hc⟩ := hcells.out.resolve_left (by omega)
      obtain ⟨c0, c1, c2⟩ := hc k hlt
      rw [← hb.cell (p := ⟨b, off + k * 3, none⟩) hblt] at c0
      rw [← hb.cell (p := ⟨b, off + k * 3 + 1, none⟩) hblt] at c1
      rw [← hb.cell (p := ⟨b, off + k * 3 + 2, none⟩) hblt] at c2
      have hsz := hb.size
      clear hc
      have hb1 := hb.alloc hsz (.cells #[.string (cAt cs k).code, .int .i64 (cAt cs k).rate, .int .i64 (cAt cs k).cut] 55)
      have hcon := find_any (some ⟨b, off, none⟩) len cap cs (cAt cs k).code _ (hT.out.kept hb1)
      rw [World.size_alloc] at hcon
      replace hb1 := Lib.hid hb1
      replace hb := Lib.hid hb
      by_cases he : ∃ i, i < k ∧ (cAt cs i).code = (cAt cs k).code
      · have hfin : twB cs = true := tw_yes ⟨k, by rw [hl.out]; exact hlt, he⟩
        replace hfin := Lib.hid hfin
        obtain ⟨j, hj, e⟩ := find_other cs k (by rw [hl.out]; exact hlt) he
        rw [e] at hcon
        have hne : ((j : Int) != (k : Int)) = true := by simp; omega
        clear e he
        replace hcon := Lib.hid hcon
        go_wp2_with (first | (go_at_call 124; (with_reducible refine hcon.out.mono ?_); rintro e w1 ⟨rfl, hb2⟩))
        go_ret
        exact ⟨by rw [hfin.out]; rfl, hb1.out.trans (hb2.mono (by omega))⟩
      · have e := find_own cs k (by rw [hl.out]; exact hlt) (fun i hi h => he ⟨i, hi, h⟩)
        rw [e] at hcon
        clear e
        replace he := Lib.hid he
        replace hcon := Lib.hid hcon
        go_wp2_with (first | (go_at_call 124; (with_reducible refine hcon.out.mono ?_); rintro e w1 ⟨rfl, hb2⟩))
        go_roundw
        case rel =>
          refine ⟨k + 1, by omega, by go_num, hb1.out.trans (hb2.mono (by omega)), ?_⟩
          rintro ⟨j, hj, h⟩
          by_cases e : j = k
          · subst e; exact he.out h
          · exact hall.out ⟨j, by omega, h⟩
        case measure => simp [intOf]; omega
    · have hfin : twB cs = false := tw_no (by
        rw [hl.out]; obtain rfl : k = len := by omega
        exact hall.out)
      replace hfin := Lib.hid hfin
      replace hb := Lib.hid hb
      go_wp2_with fail
      go_ret
      exact ⟨by rw [hfin.out]; rfl, hb.out⟩

noncomputable def missC (c : Cur) : Bool := missB c.code
theorem miss_any (c : Cur) (w : World) : Calls Tryz.prog 104 #[.agg #[.string c.code, .int .i64 c.rate, .int .i64 c.cut]] w fun e w' => e = .returned (.bool (missC c)) ∧ Below w.heap.size w w' := misspelt_any c w
/-- a place from 0 on just if one is as asked -/
def AnyIx (F : Cur → Bool) (cs : List Cur) (w : World) (e : Ending) (w' : World) : Prop := ∃ n : Int, e = .returned (.int .i64 n) ∧ decide (0 ≤ n) = cs.any F ∧ Below w.heap.size w w'

theorem any_yes {F : Cur → Bool} {cs : List Cur} {k : Nat} (hk : k < cs.length) (h : F (cAt cs k) = true) : cs.any F = true := List.any_eq_true.2 ⟨_, cAt_mem hk, h⟩
theorem any_no {F : Cur → Bool} {cs : List Cur} (h : ∀ i, i < cs.length → F (cAt cs i) = false) : cs.any F = false := by
  rw [List.any_eq_false]
  intro c hc
  obtain ⟨i, hi, rfl⟩ := List.getElem_of_mem hc
  have := h i hi
  unfold cAt at this
  rw [List.getD_eq_getElem?_getD, List.getElem?_eq_getElem hi] at this
  simpa using this

set_option maxHeartbeats 1000000 in
set_option maxRecDepth 100000 in
theorem index_miss (p : Option Addr) (len cap : Nat) (cs : List Cur) (w : World) (hs : Tab w p len cs) :
    Calls Tryz.prog 123 #[.slice p len cap, .func (.func 104) #[] #[]] w (AnyIx missC cs w) := by
  obtain ⟨hl, hz, hm, hcells⟩ := hs
  replace hl := Lib.hid hl
  replace hz := Lib.hid hz
  replace hcells := Lib.hid hcells
  go_enter Tryz.func123, Tryz.ntmps123
  go_wp2_with fail
  go_loopw [8] (fun i wr => ∃ k : Nat, k ≤ len ∧ i = .int .i64 k ∧ Below w.heap.size w wr ∧ ∀ i, i < k → missC (cAt cs i) = false) (fun i _ => len - (intOf i).toNat)
  case atStart => exact ⟨0, by omega, rfl, Below.refl _ _, fun i hi => by omega⟩
  case round =>
    obtain ⟨k, hk, rfl, hb, hall⟩ := hrel
    replace hall := Lib.hid hall
    by_cases hlt : k < len
    · obtain ⟨b, off, rfl, hblt, hc⟩ := hcells.out.resolve_left (by omega)
      obtain ⟨c0, c1, c2⟩ := hc k hlt
      rw [← hb.cell (p := ⟨b, off + k * 3, none⟩) hblt] at c0
      rw [← hb.cell (p := ⟨b, off + k * 3 + 1, none⟩) hblt] at c1
      rw [← hb.cell (p := ⟨b, off + k * 3 + 2, none⟩) hblt] at c2
      have hsz := hb.size
      clear hc
      have hcon := miss_any (cAt cs k) wr
      replace hb := Lib.hid hb
      by_cases hF : missC (cAt cs k) = true
      · have hfin := Lib.hid (any_yes (F := missC) (cs := cs) (by rw [hl.out]; exact hlt) hF)
        have hk0 : decide ((0 : Int) ≤ (k : Int)) = true := by simp
        replace hk0 := Lib.hid hk0
        simp only [hF] at hcon
        replace hcon := Lib.hid hcon
        clear hF
        go_wp2_with (first | (go_at_call 104; (with_reducible refine hcon.out.mono ?_); rintro e w1 ⟨rfl, hb2⟩))
        go_ret
        exact ⟨k, rfl, by rw [hfin.out]; exact hk0.out, chain_trans hb.out hb2⟩
      · have hF' : missC (cAt cs k) = false := by simpa using hF
        simp only [hF'] at hcon
        replace hcon := Lib.hid hcon
        replace hF' := Lib.hid hF'
        clear hF
        go_wp2_with (first | (go_at_call 104; (with_reducible refine hcon.out.mono ?_); rintro e w1 ⟨rfl, hb2⟩))
        go_roundw
        case rel =>
          refine ⟨k + 1, by omega, by go_num, chain_trans hb.out hb2, fun i hi => ?_⟩
          by_cases e : i = k
          · subst e; exact hF'.out
          · exact hall.out i (by omega)
        case measure => simp [intOf]; omega
    · have hfin := Lib.hid (any_no (F := missC) (cs := cs) fun i hi => hall.out i (by rw [hl.out] at hi; omega))
      replace hb := Lib.hid hb
      go_wp2_with fail
      go_ret
      exact ⟨-1, rfl, by rw [hfin.out]; rfl, hb.out⟩

set_option maxHeartbeats 1000000 in
theorem contains_miss (p : Option Addr) (len cap : Nat) (cs : List Cur) (w : World) (hs : Tab w p len cs) :
    Calls Tryz.prog 103 #[.slice p len cap, .func (.func 104) #[] #[]] w fun e w' => e = .returned (.bool (cs.any missC)) ∧ Below w.heap.size w w' := by
  have hcon := Lib.hid (index_miss p len cap cs w hs)
  clear hs
  go_enter Tryz.func103, Tryz.ntmps103
  go_wp2_with (first | (go_at_call 123; (with_reducible refine hcon.out.mono ?_); rintro e w1 ⟨n, rfl, hn, hb⟩; replace hn := Lib.hid hn))
  go_ret
  exact ⟨by rw [← hn.out]; rfl, hb⟩

set_option maxHeartbeats 1000000 in
set_option maxRecDepth 100000 in
theorem index_oob (p : Option Addr) (len cap : Nat) (cs : List Cur) (w : World) (hs : Tab w p len cs) :
    Calls Tryz.prog 123 #[.slice p len cap, .func (.func 106) #[] #[]] w (AnyIx oobB cs w) := by
  obtain ⟨hl, hz, hm, hcells⟩ := hs
  replace hl := Lib.hid hl
  replace hz := Lib.hid hz
  replace hcells := Lib.hid hcells
  go_enter Tryz.func123, Tryz.ntmps123
  go_wp2_with fail
  go_loopw [8] (fun i wr => ∃ k : Nat, k ≤ len ∧ i = .int .i64 k ∧ Below w.heap.size w wr ∧ ∀ i, i < k → oobB (cAt cs i) = false) (fun i _ => len - (intOf i).toNat)
  case atStart => exact ⟨0, by omega, rfl, Below.refl _ _, fun i hi => by omega⟩
  case round =>
    obtain ⟨k, hk, rfl, hb, hall⟩ := hrel
    replace hall := Lib.hid hall
    by_cases hlt : k < len
    · obtain ⟨b, off, rfl, hblt, hc⟩ := hcells.out.resolve_left (by omega)
      obtain ⟨c0, c1, c2⟩ := hc k hlt
      rw [← hb.cell (p := ⟨b, off + k * 3, none⟩) hblt] at c0
      rw [← hb.cell (p := ⟨b, off + k * 3 + 1, none⟩) hblt] at c1
      rw [← hb.cell (p := ⟨b, off + k * 3 + 2, none⟩) hblt] at c2
      have hsz := hb.size
      clear hc
      have hcon := oob_any (cAt cs k) wr
      replace hb := Lib.hid hb
      by_cases hF : oobB (cAt cs k) = true
      · have hfin := Lib.hid (any_yes (F := oobB) (cs := cs) (by rw [hl.out]; exact hlt) hF)
        have hk0 : decide ((0 : Int) ≤ (k : Int)) = true := by simp
        replace hk0 := Lib.hid hk0
        simp only [hF] at hcon
        replace hcon := Lib.hid hcon
        clear hF
        go_wp2_with (first | (go_at_call 106; (with_reducible refine hcon.out.mono ?_); rintro e w1 ⟨rfl, hb2⟩))
        go_ret
        exact ⟨k, rfl, by rw [hfin.out]; exact hk0.out, chain_trans hb.out hb2⟩
      · have hF' : oobB (cAt cs k) = false := by simpa using hF
        simp only [hF'] at hcon
        replace hcon := Lib.hid hcon
        replace hF' := Lib.hid hF'
        clear hF
        go_wp2_with (first | (go_at_call 106; (with_reducible refine hcon.out.mono ?_); rintro e w1 ⟨rfl, hb2⟩))
        go_roundw
        case rel =>
          refine ⟨k + 1, by omega, by go_num, chain_trans hb.out hb2, fun i hi => ?_⟩
          by_cases e : i = k
          · subst e; exact hF'.out
          · exact hall.out i (by omega)
        case measure => simp [intOf]; omega
    · have hfin := Lib.hid (any_no (F := oobB) (cs := cs) fun i hi => hall.out i (by rw [hl.out] at hi; omega))
      replace hb := Lib.hid hb
      go_wp2_with fail
      go_ret
      exact ⟨-1, rfl, by rw [hfin.out]; rfl, hb.out⟩

set_option maxHeartbeats 1000000 in
theorem contains_oob (p : Option Addr) (len cap : Nat) (cs : List Cur) (w : World) (hs : Tab w p len cs) :
    Calls Tryz.prog 103 #[.slice p len cap, .func (.func 106) #[] #[]] w fun e w' => e = .returned (.bool (cs.any oobB)) ∧ Below w.heap.size w w' := by
  have hcon := Lib.hid (index_oob p len cap cs w hs)
  clear hs
  go_enter Tryz.func103, Tryz.ntmps103
  go_wp2_with (first | (go_at_call 123; (with_reducible refine hcon.out.mono ?_); rintro e w1 ⟨n, rfl, hn, hb⟩; replace hn := Lib.hid hn))
  go_ret
  exact ⟨by rw [← hn.out]; rfl, hb⟩

end Go.Proofs.YtiehbbhjpcnbnaaGreat
