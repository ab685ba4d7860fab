/- The contract of math/bits.Div64. -/
import Derived.Test.YtbljdjgbjnhcgaaShelf
import Derived.Test.YtbljdjgbjnhcgaaD1
import Derived.Test.YtbljdjgbjnhcgaaA3
import Derived.Deep.DeepCutAuto
import Derived.Deep.CutBlock
import Derived.Deep.QuietTactic
import Derived.BigQuiet
namespace Go.Proofs.Ytbljdjgbjnhcgaa
open Go.RowKit
set_option linter.unusedVariables false

set_option maxRecDepth 100000 in
set_option maxHeartbeats 1000000 in
theorem div64_low (lo y : Int) (w : World) (l0 : 0 ≤ lo) (l1 : lo < 18446744073709551616) (y0 : 0 < y) (y1 : y < 18446744073709551616) (e0 : (y == 0) = false) (e1 : decide (y ≤ 0) = false) :
    Calls Try.prog 45 #[.int .u64 0, .int .u64 lo, .int .u64 y] w fun e w' => e = .returned (.tuple #[.int .u64 (lo / y), .int .u64 (lo % y)]) ∧ ∃ n, w' = w.drewN n := by
  go_enter Try.func45, Try.ntmps45
  go_wp2_with fail
  go_quiet (fail)
  go_wp2_with fail
  go_ret2
  exact ⟨rfl, nq, rfl⟩

theorem digit_leave {u Y yh yl d q r : Int} (eY : Y = yh * 4294967296 + yl) (G : Guess u yh yl d q r) (hq : q ≤ 4294967296) (d0 : 0 ≤ d) (d1 : d < 4294967296) (hy0 : 0 ≤ yl) (hy1 : yl < 4294967296) (hr : 4294967296 ≤ r) (Y0 : 0 < Y) (uY : u < Y) : Digit u Y d q := by
  have h1 := G.leave hq d0 hy0 hy1 hr
  have h2 := G.up
  rw [← eY] at h1 h2
  exact Digit.mk' G.q0 Y0 uY d1 h1 h2
theorem digit_done {u Y yh yl d q r : Int} (eY : Y = yh * 4294967296 + yl) (G : Guess u yh yl d q r) (d1 : d < 4294967296) (h : q * yl ≤ 4294967296 * r + d) (Y0 : 0 < Y) (uY : u < Y) : Digit u Y d q := by
  have h1 := G.done h
  have h2 := G.up
  rw [← eY] at h1 h2
  exact Digit.mk' G.q0 Y0 uY d1 h1 h2
theorem guess_next {u Y yh yl d q r : Int} (eY : Y = yh * 4294967296 + yl) (G : Guess u yh yl d q r) (u0 : 0 ≤ u) (d0 : 0 ≤ d) (hyh : 0 ≤ yh) (Y0 : 0 < Y) (uY : u < Y) (d1 : d < 4294967296) (h : 4294967296 ≤ q ∨ 4294967296 * r + d < q * yl) :
    Guess u yh yl d (q - 1) (r + yh) ∧ q - 1 ≤ 4294967296 := G.next u0 d0 hyh (by rw [← eY]; exact Y0) (by rw [← eY]; exact uY) d1 h
theorem small_mul {q yl : Int} (q0 : 0 ≤ q) (q1 : q < 4294967296) (y0 : 0 ≤ yl) (y1 : yl < 4294967296) : 0 ≤ q * yl ∧ q * yl < 18446744073709551616 := by
  refine ⟨Int.mul_nonneg q0 y0, ?_⟩
  have h1 : q * yl ≤ 4294967295 * yl := Int.mul_le_mul_of_nonneg_right (by omega) y0
  omega

theorem wrap_u64' (a : Int) (a0 : 0 ≤ a) (a1 : a < 18446744073709551616) : IntKind.u64.wrap a = a := by rw [IntKind.wrap_u64]; omega
theorem rest_bd {u Y d q m : Int} (D : Digit u Y d q) (hm : m = u * 4294967296 + d - q * Y) (Y1 : Y < 18446744073709551616) :
    0 ≤ m ∧ m < Y ∧ IntKind.u64.wrap (IntKind.u64.wrap (IntKind.u64.wrap (u * 4294967296) + d) - IntKind.u64.wrap (q * Y)) = m := by
  have h1 := D.lo
  have h2 := D.up
  refine ⟨by omega, by omega, ?_⟩
  simp only [IntKind.wrap_u64]
  omega
theorem first_bd (u yh yl d : Int) (u0 : 0 ≤ u) (u1 : u < 18446744073709551616) (hy1 : 2147483648 ≤ yh) (hy2 : yh < 4294967296) (hy0 : 0 ≤ yl) (hy0' : yl < 4294967296) (hu : u < yh * 4294967296 + yl) (d1 : d < 4294967296) :
    ∃ g r : Int, u / yh = g ∧ IntKind.u64.wrap (u - IntKind.u64.wrap (g * yh)) = r ∧ Guess u yh yl d g r ∧ r < 4294967296 := by
  refine ⟨_, _, rfl, rfl, ?_⟩
  have G := Guess.first u yh yl d u0 hy1 hy0 hy0' hu d1
  have e : IntKind.u64.wrap (u - IntKind.u64.wrap (u / yh * yh)) = u - u / yh * yh := by
    have a1 := G.r0
    have a2 : 0 ≤ u / yh * yh := Int.mul_nonneg G.q0 (by omega)
    simp only [IntKind.wrap_u64]
    omega
  rw [e]
  refine ⟨G, ?_⟩
  have hl := Int.emod_lt_of_pos u (by omega : 0 < yh)
  have he := Int.emod_def u yh
  have hc : yh * (u / yh) = u / yh * yh := Int.mul_comm _ _
  omega

set_option maxRecDepth 100000 in
set_option maxHeartbeats 2000000 in
theorem div64_high (hi lo y : Int) (s : Nat) (Y yh yl u v d1 d0 g r : Int) (w : World) (h0 : 0 < hi) (l0 : 0 ≤ lo) (l1 : lo < 18446744073709551616) (hy : hi < y) (y1 : y < 18446744073709551616) (hs : s ≤ 63) (hS : Hid ((64 - (Lib.bitLen y.toNat : Int)) = s))
    (e0 : (y == 0) = false) (e1 : decide (y ≤ hi) = false) (e2 : (hi == 0) = false)
    (hY : Hid (IntKind.u64.wrap (y * 2 ^ s) = Y)) (hyh : Hid (Y / 4294967296 = yh)) (hyl : Hid (bits BinOp.and IntKind.u64 Y 4294967295 = yl))
    (hu : Hid (bits BinOp.or IntKind.u64 (IntKind.u64.wrap (hi * 2 ^ s)) (lo / 2 ^ (64 - s)) = u)) (hv : Hid (IntKind.u64.wrap (lo * 2 ^ s) = v))
    (hd1 : Hid (v / 4294967296 = d1)) (hd0 : Hid (bits BinOp.and IntKind.u64 v 4294967295 = d0)) (hg : Hid (u / yh = g)) (hr : Hid (IntKind.u64.wrap (u - IntKind.u64.wrap (g * yh)) = r))
    (yh0 : 2147483648 ≤ yh) (yh1 : yh < 4294967296) (yl0 : 0 ≤ yl) (yl1 : yl < 4294967296) (u0 : 0 ≤ u) (u1 : u < 18446744073709551616) (d10 : 0 ≤ d1) (d11 : d1 < 4294967296) (d00 : 0 ≤ d0) (d01 : d0 < 4294967296)
    (G1 : Guess u yh yl d1 g r) (r1 : r < 4294967296) (g0 : 0 ≤ g) (g1 : g ≤ 4294967297) (r0 : 0 ≤ r)
    (Y0 : 0 < Y) (Y1 : Y < 18446744073709551616) (uY : u < Y) (hYe : Hid (Y = yh * 4294967296 + yl)) :
    Calls Try.prog 45 #[.int .u64 hi, .int .u64 lo, .int .u64 y] w fun e w' => (∃ q1 q0 r : Int, Digit u Y d1 q1 ∧ Digit (u * 4294967296 + d1 - q1 * Y) Y d0 q0 ∧ e = .returned (.tuple #[.int .u64 (q1 * 4294967296 + q0), .int .u64 r])) ∧ ∃ n, w' = w.drewN n := by
  have s1 : (s : Int) ≤ 63 := by omega
  replace G1 := Lib.hid G1
  go_enter Try.func45, Try.ntmps45
  go_wp2_with fail
  refine (Try.bits_LeadingZeros64 y w (by omega) (by omega)).mono ?_
  rintro e w1 ⟨rfl, rfl⟩
  rw [hS.out]
  go_upto_region 9 with (fail)
  rw [hY.out]
  go_upto_region 12 with (fail)
  rw [hyh.out, hyl.out, hu.out]
  go_upto_region 13 with (fail)
  rw [hv.out]
  go_upto_region 15 with (fail)
  rw [hd1.out, hd0.out]
  go_upto_region 16 with (fail)
  rw [hg.out]
  go_upto_block 0 with (fail)
  rw [hr.out]
  clear hS hY hyh hyl hu hv hd1 hd0 hg hr
  go_cut [15] (fun s15 wc => ∃ q : Int, Digit u Y d1 q ∧ s15 = .int .u64 q ∧ wc = w1)
  case first =>
    go_wp2_with fail
    go_loop [15, 16] (fun a b => ∃ q r : Int, Guess u yh yl d1 q r ∧ r < 4294967296 ∧ a = .int .u64 q ∧ b = .int .u64 r) (fun a _ => (intOf a).toNat)
    case atStart => exact ⟨g, r, G1.out, r1, rfl, rfl⟩
    case round =>
      clear G1 r1 g0 g1 r0
      obtain ⟨q, r, G, r1, rfl, rfl⟩ := hrel
      have q0 := G.q0
      have q1 := G.q1
      have r0 := G.r0
      replace G := Lib.hid G
      by_cases c1 : 4294967296 ≤ q
      · obtain ⟨Gn, qn⟩ := guess_next hYe.out G.out u0 d10 (by omega) Y0 uY d11 (.inl c1)
        replace Gn := Lib.hid Gn
        by_cases c2 : 4294967296 ≤ r + yh
        · go_wp2_with fail
          go_meet
          exact ⟨q - 1, digit_leave hYe.out Gn.out qn d10 d11 yl0 yl1 c2 Y0 uY, rfl, rfl⟩
        · go_wp2_with fail
          exact ⟨⟨q - 1, r + yh, Gn.out, by omega, rfl, rfl⟩, by simp [intOf]; omega⟩
      · obtain ⟨m0, m1⟩ := small_mul q0 (by omega) yl0 yl1
        by_cases c3 : 4294967296 * r + d1 < q * yl
        · obtain ⟨Gn, qn⟩ := guess_next hYe.out G.out u0 d10 (by omega) Y0 uY d11 (.inr c3)
          replace Gn := Lib.hid Gn
          have qp : 0 ≤ q - 1 := Gn.out.q0
          by_cases c2 : 4294967296 ≤ r + yh
          · go_wp2_with fail
            go_meet
            exact ⟨q - 1, digit_leave hYe.out Gn.out qn d10 d11 yl0 yl1 c2 Y0 uY, rfl, rfl⟩
          · go_wp2_with fail
            exact ⟨⟨q - 1, r + yh, Gn.out, by omega, rfl, rfl⟩, by simp [intOf]; omega⟩
        · go_wp2_with fail
          go_meet
          exact ⟨q, digit_done hYe.out G.out d11 (by omega) Y0 uY, rfl, rfl⟩
  case rest =>
    clear G1 r1 g0 g1 r0
    obtain ⟨q1, D1, rfl, rfl⟩ := hcut
    have q10 := D1.q0
    have q11 := D1.q1
    replace D1 := Lib.hid D1
    obtain ⟨m, hm⟩ : ∃ m, m = u * 4294967296 + d1 - q1 * Y := ⟨_, rfl⟩
    obtain ⟨m0, mY, hmw⟩ := rest_bd D1.out hm Y1
    obtain ⟨g, r, hg, hr, G1, r1⟩ := first_bd m yh yl d0 m0 (by omega) yh0 yh1 yl0 yl1 (by rw [← hYe.out]; exact mY) d01
    replace hm := Lib.hid hm
    replace hmw := Lib.hid hmw
    replace hg := Lib.hid hg
    replace hr := Lib.hid hr
    have g0 := G1.q0
    have g1 := G1.q1
    have r0 := G1.r0
    replace G1 := Lib.hid G1
    go_upto_region 22 with (fail)
    rw [hmw.out]
    go_upto_region 23 with (fail)
    rw [hg.out]
    go_upto_block 2 with (fail)
    rw [hr.out]
    clear hmw hg hr
    go_cut [18] (fun s18 wc' => ∃ q : Int, Digit m Y d0 q ∧ s18 = .int .u64 q ∧ wc' = wc)
    case first =>
      go_wp2_with fail
      go_loop [16, 18] (fun b a => ∃ q r : Int, Guess m yh yl d0 q r ∧ r < 4294967296 ∧ a = .int .u64 q ∧ b = .int .u64 r) (fun _ a => (intOf a).toNat)
      case atStart => exact ⟨g, r, G1.out, r1, rfl, rfl⟩
      case round =>
        clear G1 r1 g0 g1 r0
        obtain ⟨q, r, G, r1, rfl, rfl⟩ := hrel
        have q0 := G.q0
        have q1 := G.q1
        have r0 := G.r0
        replace G := Lib.hid G
        by_cases c1 : 4294967296 ≤ q
        · obtain ⟨Gn, qn⟩ := guess_next hYe.out G.out m0 d00 (by omega) Y0 mY d01 (.inl c1)
          replace Gn := Lib.hid Gn
          by_cases c2 : 4294967296 ≤ r + yh
          · go_wp2_with fail
            go_meet
            exact ⟨q - 1, digit_leave hYe.out Gn.out qn d00 d01 yl0 yl1 c2 Y0 mY, rfl, rfl⟩
          · go_wp2_with fail
            exact ⟨⟨q - 1, r + yh, Gn.out, by omega, rfl, rfl⟩, by simp [intOf]; omega⟩
        · obtain ⟨n0, n1⟩ := small_mul q0 (by omega) yl0 yl1
          by_cases c3 : 4294967296 * r + d0 < q * yl
          · obtain ⟨Gn, qn⟩ := guess_next hYe.out G.out m0 d00 (by omega) Y0 mY d01 (.inr c3)
            replace Gn := Lib.hid Gn
            have qp : 0 ≤ q - 1 := Gn.out.q0
            by_cases c2 : 4294967296 ≤ r + yh
            · go_wp2_with fail
              go_meet
              exact ⟨q - 1, digit_leave hYe.out Gn.out qn d00 d01 yl0 yl1 c2 Y0 mY, rfl, rfl⟩
            · go_wp2_with fail
              exact ⟨⟨q - 1, r + yh, Gn.out, by omega, rfl, rfl⟩, by simp [intOf]; omega⟩
          · go_wp2_with fail
            go_meet
            exact ⟨q, digit_done hYe.out G.out d01 (by omega) Y0 mY, rfl, rfl⟩
    case rest =>
      clear G1 r1 g0 g1 r0
      obtain ⟨q0, D0, rfl, rfl⟩ := hcut
      have q00 := D0.q0
      have q01 := D0.q1
      replace D0 := Lib.hid D0
      go_wp2_with fail
      go_ret2
      exact ⟨⟨q1, q0, _, D1.out, by rw [← hm.out]; exact D0.out, rfl⟩, 0, rfl⟩

/-- what Div64 returns: the quotient; of what is left nothing is said -/
def Quot64 (q : Int) (w : World) (e : Ending) (w' : World) : Prop := (∃ r : Int, e = .returned (.tuple #[.int .u64 q, .int .u64 r])) ∧ ∃ n, w' = w.drewN n

theorem div64_any (hi lo y : Int) (w : World) (h0 : 0 ≤ hi) (l0 : 0 ≤ lo) (l1 : lo < 18446744073709551616) (hy : hi < y) (y1 : y < 18446744073709551616) :
    Calls Try.prog 45 #[.int .u64 hi, .int .u64 lo, .int .u64 y] w (Quot64 ((hi * 18446744073709551616 + lo) / y) w) := by
  have e0 : (y == 0) = false := by rw [beq_eq_false_iff_ne]; omega
  by_cases hz : hi = 0
  · subst hz
    refine (div64_low lo y w l0 l1 hy y1 e0 (by simp; omega)).mono fun e w' ⟨he, hw⟩ => ⟨⟨lo % y, ?_⟩, hw⟩
    rw [he, Int.zero_mul, Int.zero_add]
  · obtain ⟨s, t, e, hs, hS, ht, he, t1, e1, hte, yt0, yt1⟩ := shift_spec y (by omega) y1
    obtain ⟨a0, a1, a2, a3, a4⟩ := moved hi lo y t e h0 l0 l1 hy t1 e1 hte
    have hY : IntKind.u64.wrap (y * 2 ^ s) = y * t := by rw [ht, IntKind.wrap_u64]; omega
    have hu : bits BinOp.or IntKind.u64 (IntKind.u64.wrap (hi * 2 ^ s)) (lo / 2 ^ (64 - s)) = hi * t + lo / e := by
      rw [ht, he, wrap_u64' (hi * t) a2 (by omega)]
      exact or_add hi (lo / e) s t ht h0 a0 a1 (by omega) (by omega)
    have hv : IntKind.u64.wrap (lo * 2 ^ s) = lo * t % 18446744073709551616 := by rw [ht, IntKind.wrap_u64]
    generalize hYg : y * t = Y at *
    generalize hug : hi * t + lo / e = u at *
    generalize hvg : lo * t % 18446744073709551616 = v at *
    have v0 : 0 ≤ v ∧ v < 18446744073709551616 := by omega
    obtain ⟨g, r, hg, hr, G1, r1⟩ := first_bd u (Y / 4294967296) (Y % 4294967296) (v / 4294967296) (by omega) (by omega) (by omega) (by omega) (by omega) (by omega) (by omega) (by omega)
    refine (div64_high hi lo y s Y (Y / 4294967296) (Y % 4294967296) u v (v / 4294967296) (v % 4294967296) g r w (by omega) l0 l1 hy y1 hs hS e0 (by simp; omega) (by rw [beq_eq_false_iff_ne]; omega)
      hY rfl (and_mask Y (by omega) (by omega)) hu hv rfl (and_mask v v0.1 v0.2) hg hr (by omega) (by omega) (by omega) (by omega) (by omega) (by omega) (by omega) (by omega) (by omega) (by omega)
      G1 r1 G1.q0 G1.q1 G1.r0 (by omega) (by omega) a3 (by show Y = _; omega)).mono ?_
    rintro e' w' ⟨⟨q1, q0, r', D1, D0, rfl⟩, hw⟩
    refine ⟨⟨r', ?_⟩, hw⟩
    have key := two_digits rfl D0
    rw [show v / 4294967296 * 4294967296 + v % 4294967296 = v from by omega, a4, ← hYg, Int.mul_ediv_mul_of_pos_left _ _ (by omega)] at key
    rw [key]
end Go.Proofs.Ytbljdjgbjnhcgaa
