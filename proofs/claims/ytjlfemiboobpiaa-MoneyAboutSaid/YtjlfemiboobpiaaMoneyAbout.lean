/- The walk of the law MoneyAbout: it returns true for every three amounts. -/
import Derived.Test.YtjlfemiboobpiaaB2
namespace Go.Proofs.Ytjlfemiboobpiaa
open Go.RowKit
set_option linter.unusedVariables false

/-- the two whole numbers about a quotient -/
theorem about (a b c : Int) (c0 : 1 ≤ c) (X Y : Int) (hX : muldiv a b c false = X) (hY : muldiv a b c true = Y) :
    X * c ≤ a * b ∧ (Y = X ∨ Y = X + 1) ∧ (a * b = X * c ↔ X = Y) := by
  unfold muldiv at hX hY
  simp at hX hY
  have h1 := Int.emod_nonneg (a * b) (by omega : c ≠ 0)
  have h2 := Int.emod_lt_of_pos (a * b) (by omega : 0 < c)
  have h3 := Int.emod_def (a * b) c
  have h4 : c * (a * b / c) = a * b / c * c := Int.mul_comm _ _
  rw [neg_div _ _ c0] at hY
  rw [hX] at h3 h4
  generalize a * b = P at *
  by_cases hz : P % c = 0
  · have e : (P + (c - 1)) / c = X := div_of (r := c - 1) (by omega) (by omega) (by omega)
    refine ⟨by omega, .inl (by omega), by omega⟩
  · have e : (P + (c - 1)) / c = X + 1 := div_of (r := P % c - 1) (by omega) (by omega) (by rw [Int.add_mul, Int.one_mul]; omega)
    refine ⟨by omega, .inr (by omega), by omega⟩
theorem muldiv_turn (a b c : Int) (c0 : 1 ≤ c) : muldiv (-a) b c true = -muldiv a b c false ∧ muldiv (-a) b c false = -muldiv a b c true := by
  unfold muldiv; simp [Int.neg_mul]

set_option maxRecDepth 100000 in
set_option maxHeartbeats 2000000 in
theorem about_arg (a b c : Int) (w : World) (c1 : c < 1) :
    Calls Try.prog 7 #[.int .i64 a, .int .i64 b, .int .i64 c] w fun e w' => e = .returned (.bool true) ∧ Below w.heap.size w w' := by
  go_enter Try.func7, Try.ntmps7
  go_wp2_with fail
  refine (awake_any _).mono ?_
  rintro e w1 ⟨rfl, hb1⟩
  go_wp2_with fail
  refine (muldiv_arg _ _ _ _ _ c1).mono ?_
  rintro e w2 ⟨rfl, rfl⟩
  go_wp2_with fail
  refine (muldiv_arg _ _ _ _ _ c1).mono ?_
  rintro e w2 ⟨rfl, rfl⟩
  go_wp2_with fail
  go_ret
  exact ⟨rfl, hb1⟩

set_option maxRecDepth 100000 in
set_option maxHeartbeats 2000000 in
theorem about_over (a b c X Y : Int) (w : World) (a0 : -9223372036854775808 ≤ a) (a1 : a ≤ 9223372036854775807) (b0 : -9223372036854775808 ≤ b) (b1 : b ≤ 9223372036854775807) (c0 : 1 ≤ c) (c1 : c ≤ 9223372036854775807)
    (hX : Hid (muldiv a b c false = X)) (hY : Hid (muldiv a b c true = Y)) (h : ¬ Amt X ∨ ¬ Amt Y) :
    Calls Try.prog 7 #[.int .i64 a, .int .i64 b, .int .i64 c] w fun e w' => e = .returned (.bool true) ∧ Below w.heap.size w w' := by
  go_enter Try.func7, Try.ntmps7
  go_wp2_with fail
  refine (awake_any _).mono ?_
  rintro e w1 ⟨rfl, hb1⟩
  go_wp2_with fail
  refine (muldiv_any _ _ _ _ _ a0 a1 b0 b1 c0 c1).mono ?_
  rintro e w2 ⟨rfl, hb2⟩
  replace hb2 := chain_trans hb1 hb2; clear hb1
  rw [hX.out]
  go_wp2_with fail
  refine (muldiv_any _ _ _ _ _ a0 a1 b0 b1 c0 c1).mono ?_
  rintro e w3 ⟨rfl, hb3⟩
  replace hb3 := chain_trans hb2 hb3; clear hb2
  rw [hY.out]
  unfold Amt at h
  by_cases hx : -9223372036854775808 ≤ X ∧ X ≤ 9223372036854775807
  · have hy : ¬ (-9223372036854775808 ≤ Y ∧ Y ≤ 9223372036854775807) := by omega
    rw [← (fit_no Y (by omega)).1, ← (fit_no Y (by omega)).2, ← (fit_yes X hx.1 hx.2).1, ← (fit_yes X hx.1 hx.2).2]
    clear h hx hy
    by_cases h0 : X = 0
    · subst h0
      go_wp2_with fail
      go_ret
      exact ⟨rfl, hb3⟩
    · have h0' : (X == 0) = false := by simpa using h0
      clear h0
      go_wp2_with fail
      go_ret
      exact ⟨rfl, hb3⟩
  · rw [← (fit_no X (by omega)).1, ← (fit_no X (by omega)).2]
    clear h hx
    go_wp2_with fail
    go_ret
    exact ⟨rfl, hb3⟩

set_option maxRecDepth 100000 in
set_option maxHeartbeats 4000000 in
theorem about_fits (a b c X Y P Q : Int) (m1 m2 m3 : Bool) (w : World) (a0 : -9223372036854775808 ≤ a) (a1 : a ≤ 9223372036854775807) (b0 : -9223372036854775808 ≤ b) (b1 : b ≤ 9223372036854775807) (c0 : 1 ≤ c) (c1 : c ≤ 9223372036854775807)
    (hX : Hid (muldiv a b c false = X)) (hY : Hid (muldiv a b c true = Y)) (x0 : -9223372036854775808 ≤ X) (x1 : X ≤ 9223372036854775807) (y0 : -9223372036854775808 ≤ Y) (y1 : Y ≤ 9223372036854775807)
    (hP : Hid (a * b = P)) (hQ : Hid (X * c = Q)) (hQP : Q ≤ P) (hXY : Hid (Y = X ∨ Y = X + 1)) (hPQ : Hid (P = Q ↔ X = Y))
    (e1 : Hid ((a == -9223372036854775808) = m1)) (e2 : Hid ((X == -9223372036854775808) = m2)) (e3 : Hid ((Y == -9223372036854775808) = m3)) :
    Calls Try.prog 7 #[.int .i64 a, .int .i64 b, .int .i64 c] w fun e w' => e = .returned (.bool true) ∧ Below w.heap.size w w' := by
  go_enter Try.func7, Try.ntmps7
  go_wp2_with fail
  refine (awake_any _).mono ?_
  rintro e w1 ⟨rfl, hb1⟩
  go_wp2_with fail
  refine (muldiv_any _ _ _ _ _ a0 a1 b0 b1 c0 c1).mono ?_
  rintro e w2 ⟨rfl, hb2⟩
  replace hb2 := chain_trans hb1 hb2; clear hb1
  rw [hX.out]
  go_wp2_with fail
  refine (muldiv_any _ _ _ _ _ a0 a1 b0 b1 c0 c1).mono ?_
  rintro e w3 ⟨rfl, hb3⟩
  replace hb3 := chain_trans hb2 hb3; clear hb2
  rw [hY.out, ← (fit_yes Y y0 y1).1, ← (fit_yes Y y0 y1).2, ← (fit_yes X x0 x1).1, ← (fit_yes X x0 x1).2]
  go_wp2_with fail
  refine (mul_any _ _ _ a0 a1 b0 b1).mono ?_
  rintro e w4 ⟨rfl, hb4⟩
  replace hb4 := chain_trans hb3 hb4; clear hb3
  rw [hP.out]
  go_wp2_with fail
  refine (mul_any _ _ _ x0 x1 (by omega) c1).mono ?_
  rintro e w5 ⟨rfl, hb5⟩
  replace hb5 := chain_trans hb4 hb5; clear hb4
  rw [hQ.out]
  replace hb5 := Lib.hid hb5
  go_upto_region 9 with (fail)
  go_cut [11, 12, 13, 14, 86] (fun _ _ _ _ t wc => t = .bool false ∧ wc = w5)
  case first =>
    clear hX hY hP hQ e1 e2 e3 hb5
    by_cases hp : -9223372036854775808 ≤ P ∧ P ≤ 9223372036854775807
    · rw [← (fit_yes P hp.1 hp.2).1, ← (fit_yes P hp.1 hp.2).2]
      by_cases hq : -9223372036854775808 ≤ Q ∧ Q ≤ 9223372036854775807
      · rw [← (fit_yes Q hq.1 hq.2).1, ← (fit_yes Q hq.1 hq.2).2]
        by_cases hpq : P = Q
        · have k1 : (P == Q) = true := by simpa using hpq
          have k2 : (X == Y) = true := by simpa using hPQ.out.1 hpq
          have k3 : decide (P < Q) = false := by simp; omega
          clear hpq hp hq hPQ hXY
          go_wp2_with fail
          go_meet
          exact ⟨rfl, rfl⟩
        · have k1 : (P == Q) = false := by simpa using hpq
          have k2 : (X == Y) = false := by simpa using fun h => hpq (hPQ.out.2 h)
          have k3 : decide (P < Q) = false := by simp; omega
          clear hpq hp hq hPQ hXY
          go_wp2_with fail
          go_meet
          exact ⟨rfl, rfl⟩
      · rw [← (fit_no Q (by omega)).1, ← (fit_no Q (by omega)).2]
        clear hp hq hPQ hXY
        go_wp2_with fail
        go_meet
        exact ⟨rfl, rfl⟩
    · rw [← (fit_no P (by omega)).1, ← (fit_no P (by omega)).2]
      clear hp hPQ hXY
      go_wp2_with fail
      go_meet
      exact ⟨rfl, rfl⟩
  case rest =>
    obtain ⟨rfl, rfl⟩ := hcut
    go_upto_region 11 with (fail)
    go_cut [96] (fun t w' => t = .bool (m1 || m2 || m3) ∧ w' = wc)
    case first =>
      have f1 := e1.out
      have f2 := e2.out
      have f3 := e3.out
      clear hX hY hP hQ e1 e2 e3 hb5 hPQ hXY
      cases m1 <;> cases m2 <;> cases m3
      all_goals
        go_wp2_with fail
        go_meet
        exact ⟨rfl, rfl⟩
    case rest =>
      rename_i wd' _ _ _
      obtain ⟨rfl, rfl⟩ := hcut
      cases hm : (m1 || m2 || m3)
      · simp only [Bool.or_eq_false_iff] at hm
        obtain ⟨⟨rfl, rfl⟩, rfl⟩ := hm
        have a2 : -9223372036854775808 < a := by have := e1.out; simp at this; omega
        have x2 : -9223372036854775808 < X := by have := e2.out; simp at this; omega
        have y2 : -9223372036854775808 < Y := by have := e3.out; simp at this; omega
        obtain ⟨t1, t2⟩ := muldiv_turn a b c c0
        rw [hX.out] at t1
        rw [hY.out] at t2
        replace t1 := Lib.hid t1
        replace t2 := Lib.hid t2
        clear hX hY hP hQ e1 e2 e3 hPQ
        go_wp2_with fail
        refine (muldiv_any _ _ _ _ _ (by omega) (by omega) b0 b1 c0 c1).mono ?_
        rintro e w6 ⟨rfl, hb6⟩
        rw [t1.out, ← (fit_yes (-X) (by omega) (by omega)).1, ← (fit_yes (-X) (by omega) (by omega)).2]
        replace hb6 := Lib.hid (chain_trans hb5.out hb6); clear hb5
        go_wp2_with fail
        refine (muldiv_any _ _ _ _ _ (by omega) (by omega) b0 b1 c0 c1).mono ?_
        rintro e w7 ⟨rfl, hb7⟩
        rw [t2.out, ← (fit_yes (-Y) (by omega) (by omega)).1, ← (fit_yes (-Y) (by omega) (by omega)).2]
        replace hb7 := Lib.hid (chain_trans hb6.out hb7); clear hb6 t1 t2
        rcases hXY.out with hh | hh
        · subst hh
          clear hXY
          go_wp2_with fail
          go_ret
          exact ⟨rfl, hb7.out⟩
        · have n1 : (Y == X) = false := by simp; omega
          have n2 : (Y == X + 1) = true := by simp; omega
          have x3 : X < 9223372036854775807 := by omega
          clear hXY hh
          go_wp2_with fail
          go_ret
          exact ⟨rfl, hb7.out⟩
      · clear hX hY hP hQ e1 e2 e3 hPQ
        rcases hXY.out with hh | hh
        · subst hh
          clear hXY
          go_wp2_with fail
          go_ret
          exact ⟨rfl, hb5.out⟩
        · have n1 : (Y - X == 0) = false := by simp; omega
          have n2 : (Y - X == 1) = true := by simp; omega
          have x3 : Y - X ≤ 1 := by omega
          have x4 : 0 ≤ Y - X := by omega
          clear hXY hh
          go_wp2_with fail
          go_ret
          exact ⟨rfl, hb5.out⟩
end Go.Proofs.Ytjlfemiboobpiaa
