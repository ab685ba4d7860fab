/- TableBack answers true, whatever the table, the places and the amount. -/
import Derived.Test.YtbljdjgbjnhcgaaP7
import Derived.Lib.Hide
namespace Go.Proofs.Ytbljdjgbjnhcgaa
open Go.RowKit
set_option linter.unusedVariables false

theorem fit_amt (x : Int) : Amt (fitV x) := by
  unfold fitV Amt; split <;> omega
theorem fit_split (x : Int) : (fitE x = 0 ∧ fitV x = x ∧ Amt x) ∨ (fitE x = 3 ∧ fitV x = 0) := by
  unfold fitV fitE Amt
  by_cases h : -9223372036854775808 ≤ x ∧ x ≤ 9223372036854775807
  · rw [if_pos h, if_pos h]; exact .inl ⟨rfl, rfl, h⟩
  · rw [if_neg h, if_neg h]; exact .inr ⟨rfl, rfl⟩
theorem down_spec (a b c : Int) (hc : 1 ≤ c) : muldiv a b c false * c ≤ a * b ∧ a * b < muldiv a b c false * c + c := by
  unfold muldiv
  have h1 := Int.emod_nonneg (a * b) (by omega : c ≠ 0)
  have h2 := Int.emod_lt_of_pos (a * b) (by omega : 0 < c)
  have h3 := Int.mul_ediv_add_emod (a * b) c
  have h4 : c * (a * b / c) = a * b / c * c := Int.mul_comm _ _
  simp only [Bool.false_eq_true, if_false]
  omega
theorem up_spec (a b c : Int) (hc : 1 ≤ c) : a * b ≤ muldiv a b c true * c ∧ muldiv a b c true * c < a * b + c := by
  unfold muldiv
  have h1 := Int.emod_nonneg (-(a * b)) (by omega : c ≠ 0)
  have h2 := Int.emod_lt_of_pos (-(a * b)) (by omega : 0 < c)
  have h3 := Int.mul_ediv_add_emod (-(a * b)) c
  have h4 : c * (-(a * b) / c) = -(a * b) / c * c := Int.mul_comm _ _
  simp only [if_true]
  rw [Int.neg_mul]
  omega
theorem le_of_mul (a b c : Int) (hc : 1 ≤ c) (h : a * c < b * c + c) : a ≤ b := by
  have h1 : a * c < (b + 1) * c := by rw [Int.add_mul]; omega
  have := Int.lt_of_mul_lt_mul_right h1 (by omega)
  omega

/-- there and back -/
theorem back_math (r q a : Int) (hr : 1 ≤ r) (hq : 1 ≤ q) (ha : 0 ≤ a) (ha1 : a ≤ 9223372036854775807) :
    (fitE (muldiv a r q false) ≠ 0 ∨ (fitE (muldiv (fitV (muldiv a r q false)) q r false) = 0 ∧ fitV (muldiv (fitV (muldiv a r q false)) q r false) ≤ a ∧ 0 ≤ fitV (muldiv (fitV (muldiv a r q false)) q r false))) ∧
    (fitE (muldiv a r q true) ≠ 0 ∨ fitE (muldiv (fitV (muldiv a r q true)) q r true) ≠ 0 ∨ a ≤ fitV (muldiv (fitV (muldiv a r q true)) q r true)) := by
  constructor
  · rcases fit_split (muldiv a r q false) with ⟨_, e, _⟩ | ⟨e, _⟩
    · refine .inr ?_
      rw [e]
      obtain ⟨h1, h2⟩ := down_spec a r q hq
      obtain ⟨h3, h4⟩ := down_spec (muldiv a r q false) q r hr
      have hn : 0 ≤ a * r := Int.mul_nonneg ha (by omega)
      have h5 : 0 ≤ muldiv a r q false := le_of_mul 0 _ q hq (by omega)
      have hn' : 0 ≤ muldiv a r q false * q := Int.mul_nonneg h5 (by omega)
      have h6 : 0 ≤ muldiv (muldiv a r q false) q r false := le_of_mul 0 _ r hr (by omega)
      have h7 : muldiv (muldiv a r q false) q r false ≤ a := le_of_mul _ a r hr (by omega)
      obtain ⟨f1, f2⟩ := fit_yes (muldiv (muldiv a r q false) q r false) (by omega) (by omega)
      rw [← f1, ← f2]
      exact ⟨rfl, h7, h6⟩
    · exact .inl (by omega)
  · rcases fit_split (muldiv a r q true) with ⟨_, e, _⟩ | ⟨e, _⟩
    · refine .inr ?_
      rw [e]
      obtain ⟨h1, h2⟩ := up_spec a r q hq
      obtain ⟨h3, h4⟩ := up_spec (muldiv a r q true) q r hr
      rcases fit_split (muldiv (muldiv a r q true) q r true) with ⟨_, e', _⟩ | ⟨e', _⟩
      · refine .inr ?_
        rw [e']
        exact le_of_mul a _ r hr (by omega)
      · exact .inl (by omega)
    · exact .inl (by omega)

set_option maxHeartbeats 2000000 in
set_option maxRecDepth 100000 in
theorem back_large (p : Option Addr) (len cap : Nat) (cs : List Cur) (f t a : Int) (w : World) (hs : Tab w p len cs) (hL : largeB cs = true) :
    Calls Try.prog 6 #[.slice p len cap, .int .i64 f, .int .i64 t, .int .i64 a] w fun e w' => e = .returned (.bool true) ∧ Below w.heap.size w w' := by
  go_enter Try.func6, Try.ntmps6
  go_wp2_with fail
  refine (awake_any _).mono ?_
  rintro e w1 ⟨rfl, hb1⟩
  have hs1 := hs.kept hb1
  have hcl := large_any p len cap cs w1 hs1
  replace hb1 := Lib.hid hb1
  clear hs
  rw [hL] at hcl
  replace hcl := Lib.hid hcl
  clear hs1 hL
  go_wp2_with fail
  refine hcl.out.mono ?_
  rintro e w2 ⟨rfl, rfl⟩
  go_wp2_with fail
  go_ret
  exact ⟨rfl, hb1.out⟩
set_option maxHeartbeats 2000000 in
set_option maxRecDepth 100000 in
theorem back_none (p : Option Addr) (len cap : Nat) (cs : List Cur) (f t a : Int) (w : World) (hs : Tab w p len cs) (hL : largeB cs = false) (hC : ¬ chkT cs = 0) :
    Calls Try.prog 6 #[.slice p len cap, .int .i64 f, .int .i64 t, .int .i64 a] w fun e w' => e = .returned (.bool true) ∧ Below w.heap.size w w' := by
  go_enter Try.func6, Try.ntmps6
  go_wp2_with fail
  refine (awake_any _).mono ?_
  rintro e w1 ⟨rfl, hb1⟩
  have hs1 := hs.kept hb1
  have hcl := large_any p len cap cs w1 hs1
  replace hb1 := Lib.hid hb1
  clear hs
  rw [hL] at hcl
  have hcc := check_any p len cap cs w1 hs1
  generalize chkT cs = n at *
  have hn : (n != 0) = true := by simpa using hC
  replace hcl := Lib.hid hcl
  replace hcc := Lib.hid hcc
  clear hs1 hL hC
  go_wp2_with fail
  refine hcl.out.mono ?_
  rintro e w2 ⟨rfl, rfl⟩
  go_wp2_with fail
  refine hcc.out.mono ?_
  rintro e w2 ⟨rfl, hb2⟩
  replace hb2 := Lib.hid (chain_trans hb1.out hb2)
  go_wp2_with fail
  go_ret
  exact ⟨rfl, hb2.out⟩
set_option maxHeartbeats 2000000 in
set_option maxRecDepth 100000 in
theorem back_skip (p : Option Addr) (len cap : Nat) (cs : List Cur) (f t a : Int) (w : World) (hs : Tab w p len cs) (hL : largeB cs = false) (hC : chkT cs = 0) (hm : a < 0 ∨ f < 0 ∨ (len : Int) ≤ f ∨ t < 0 ∨ (len : Int) ≤ t) :
    Calls Try.prog 6 #[.slice p len cap, .int .i64 f, .int .i64 t, .int .i64 a] w fun e w' => e = .returned (.bool true) ∧ Below w.heap.size w w' := by
  go_enter Try.func6, Try.ntmps6
  go_wp2_with fail
  refine (awake_any _).mono ?_
  rintro e w1 ⟨rfl, hb1⟩
  have hs1 := hs.kept hb1
  have hcl := large_any p len cap cs w1 hs1
  replace hb1 := Lib.hid hb1
  clear hs
  rw [hL] at hcl
  have hcc := check_any p len cap cs w1 hs1
  rw [hC] at hcc
  replace hcl := Lib.hid hcl
  replace hcc := Lib.hid hcc
  clear hs1 hL hC
  go_wp2_with fail
  refine hcl.out.mono ?_
  rintro e w2 ⟨rfl, rfl⟩
  go_wp2_with fail
  refine hcc.out.mono ?_
  rintro e w2 ⟨rfl, hb2⟩
  replace hb2 := Lib.hid (chain_trans hb1.out hb2)
  by_cases q0 : a < 0
  · have t0 : decide (a < 0) = true := by simp; omega
    clear hm
    go_wp2_with fail
    go_ret
    exact ⟨rfl, hb2.out⟩
  · have t0 : decide (a < 0) = false := by simp; omega
    by_cases q1 : f < 0
    · have t1 : decide (f < 0) = true := by simp; omega
      clear hm
      go_wp2_with fail
      go_ret
      exact ⟨rfl, hb2.out⟩
    · have t1 : decide (f < 0) = false := by simp; omega
      by_cases q2 : (len : Int) ≤ f
      · have t2 : decide ((len : Int) ≤ f) = true := by simp; omega
        clear hm
        go_wp2_with fail
        go_ret
        exact ⟨rfl, hb2.out⟩
      · have t2 : decide ((len : Int) ≤ f) = false := by simp; omega
        by_cases q3 : t < 0
        · have t3 : decide (t < 0) = true := by simp; omega
          clear hm
          go_wp2_with fail
          go_ret
          exact ⟨rfl, hb2.out⟩
        · have t3 : decide (t < 0) = false := by simp; omega
          have t4 : decide ((len : Int) ≤ t) = true := by simp; omega
          clear hm
          go_wp2_with fail
          go_ret
          exact ⟨rfl, hb2.out⟩

set_option maxHeartbeats 4000000 in
set_option maxRecDepth 100000 in
theorem back_main (p : Option Addr) (len cap : Nat) (cs : List Cur) (k j : Nat) (a : Int) (w : World) (hs : Tab w p len cs) (hL : largeB cs = false) (hC : chkT cs = 0) (hk : k < len) (hj : j < len) (ha : 0 ≤ a) (ha1 : a ≤ 9223372036854775807) :
    Calls Try.prog 6 #[.slice p len cap, .int .i64 k, .int .i64 j, .int .i64 a] w fun e w' => e = .returned (.bool true) ∧ Below w.heap.size w w' := by
  obtain ⟨_, _, hoo, _⟩ := chk_ok hC
  have hle := hs.1
  have ok := hoo k (by omega)
  have oj := hoo j (by omega)
  obtain ⟨hm1, hm2⟩ := back_math (cAt cs k).rate (cAt cs j).rate a (oob_no ok).1 (oob_no oj).1 ha ha1
  go_enter Try.func6, Try.ntmps6
  go_wp2_with fail
  refine (awake_any _).mono ?_
  rintro e w1 ⟨rfl, hb1⟩
  replace hs := hs.kept hb1
  have hcl := large_any p len cap cs w1 hs
  rw [hL] at hcl
  replace hcl := Lib.hid hcl
  replace hb1 := Lib.hid hb1
  have hcc := check_any p len cap cs w1 hs
  rw [hC] at hcc
  replace hcc := Lib.hid hcc
  have c1 := fun w hs => change_any p len cap cs k j a false w hs hk hj ⟨by omega, ha1⟩ ok oj
  have c2 := fun w hs => change_any p len cap cs j k (fitV (changeT (cAt cs k) (cAt cs j) a false)) false w hs hj hk (fit_amt _) oj ok
  have c3 := fun w hs => change_any p len cap cs k j a true w hs hk hj ⟨by omega, ha1⟩ ok oj
  have c4 := fun w hs => change_any p len cap cs j k (fitV (changeT (cAt cs k) (cAt cs j) a true)) true w hs hj hk (fit_amt _) oj ok
  unfold changeT at c1 c2 c3 c4
  generalize fitV (muldiv (fitV (muldiv a (cAt cs k).rate (cAt cs j).rate true)) (cAt cs j).rate (cAt cs k).rate true) = x4 at *
  generalize fitE (muldiv (fitV (muldiv a (cAt cs k).rate (cAt cs j).rate true)) (cAt cs j).rate (cAt cs k).rate true) = e4 at *
  generalize fitV (muldiv (fitV (muldiv a (cAt cs k).rate (cAt cs j).rate false)) (cAt cs j).rate (cAt cs k).rate false) = x2 at *
  generalize fitE (muldiv (fitV (muldiv a (cAt cs k).rate (cAt cs j).rate false)) (cAt cs j).rate (cAt cs k).rate false) = e2 at *
  generalize fitV (muldiv a (cAt cs k).rate (cAt cs j).rate true) = x3 at *
  generalize fitE (muldiv a (cAt cs k).rate (cAt cs j).rate true) = e3 at *
  generalize fitV (muldiv a (cAt cs k).rate (cAt cs j).rate false) = x1 at *
  generalize fitE (muldiv a (cAt cs k).rate (cAt cs j).rate false) = e1 at *
  replace c1 := Lib.hid c1
  replace c2 := Lib.hid c2
  replace c3 := Lib.hid c3
  replace c4 := Lib.hid c4
  replace hs := Lib.hid hs
  replace hm1 := Lib.hid hm1
  replace hm2 := Lib.hid hm2
  replace hle := Lib.hid hle
  have t0 : decide (a < 0) = false := by simp; omega
  have t1 : decide ((k : Int) < 0) = false := by simp
  have t2 : decide ((len : Int) ≤ (k : Int)) = false := by simp; omega
  have t3 : decide ((j : Int) < 0) = false := by simp
  have t4 : decide ((len : Int) ≤ (j : Int)) = false := by simp; omega
  clear hoo ok oj hL hC
  go_wp2_with fail
  refine hcl.out.mono ?_
  rintro e w2 ⟨rfl, rfl⟩
  go_wp2_with fail
  refine hcc.out.mono ?_
  rintro e w2 ⟨rfl, hb2⟩
  replace hs := Lib.hid (hs.out.kept hb2)
  replace hb2 := Lib.hid (chain_trans hb1.out hb2)
  clear hb1 hcc hcl
  go_wp2_with fail
  refine (c1.out _ hs.out).mono ?_
  rintro e w3 ⟨rfl, hb3⟩
  replace hs := Lib.hid (hs.out.kept hb3)
  replace hb3 := Lib.hid (chain_trans hb2.out hb3)
  clear hb2 c1
  go_wp2_with fail
  refine (c2.out _ hs.out).mono ?_
  rintro e w4 ⟨rfl, hb4⟩
  replace hs := Lib.hid (hs.out.kept hb4)
  replace hb4 := Lib.hid (chain_trans hb3.out hb4)
  clear hb3 c2
  go_wp2_with fail
  refine (c3.out _ hs.out).mono ?_
  rintro e w5 ⟨rfl, hb5⟩
  replace hs := Lib.hid (hs.out.kept hb5)
  replace hb5 := Lib.hid (chain_trans hb4.out hb5)
  clear hb4 c3
  go_wp2_with fail
  refine (c4.out _ hs.out).mono ?_
  rintro e w6 ⟨rfl, hb6⟩
  replace hb6 := Lib.hid (chain_trans hb5.out hb6)
  clear hb5 c4 hs t0 t1 t2 t3 t4
  by_cases h1 : e1 = 0
  · obtain ⟨h2, h3, h4⟩ := hm1.out.resolve_left (by simpa using h1)
    subst h1; subst h2
    clear hm1
    have s1 : decide (x2 ≤ a) = true := by simpa using h3
    have s2 : decide (0 ≤ x2) = true := by simpa using h4
    by_cases h5 : e3 = 0
    · have h6 := hm2.out.resolve_left (by simpa using h5)
      subst h5
      clear hm2
      by_cases h7 : e4 = 0
      · have h8 := h6.resolve_left (by simpa using h7)
        subst h7
        clear h6
        have s3 : decide (a ≤ x4) = true := by simpa using h8
        go_wp2_with fail
        go_ret
        exact ⟨rfl, hb6.out⟩
      · have s3 : (e4 != 0) = true := by simpa using h7
        clear h6 h7
        go_wp2_with fail
        go_ret
        exact ⟨rfl, hb6.out⟩
    · have s3 : (e3 != 0) = true := by simpa using h5
      clear h5 hm2
      go_wp2_with fail
      go_ret
      exact ⟨rfl, hb6.out⟩
  · have s0 : (e1 != 0) = true := by simpa using h1
    clear h1 hm1
    by_cases h5 : e3 = 0
    · have h6 := hm2.out.resolve_left (by simpa using h5)
      subst h5
      clear hm2
      by_cases h7 : e4 = 0
      · have h8 := h6.resolve_left (by simpa using h7)
        subst h7
        clear h6
        have s3 : decide (a ≤ x4) = true := by simpa using h8
        go_wp2_with fail
        go_ret
        exact ⟨rfl, hb6.out⟩
      · have s3 : (e4 != 0) = true := by simpa using h7
        clear h6 h7
        go_wp2_with fail
        go_ret
        exact ⟨rfl, hb6.out⟩
    · have s3 : (e3 != 0) = true := by simpa using h5
      clear h5 hm2
      go_wp2_with fail
      go_ret
      exact ⟨rfl, hb6.out⟩

theorem tableBack_any (p : Option Addr) (len cap : Nat) (cs : List Cur) (f t a : Int) (w : World) (hs : Tab w p len cs) (hf : Amt f) (ht : Amt t) (ha : Amt a) :
    Calls Try.prog 6 #[.slice p len cap, .int .i64 f, .int .i64 t, .int .i64 a] w fun e w' => e = .returned (.bool true) ∧ Below w.heap.size w w' := by
  by_cases hL : largeB cs = true
  · exact back_large p len cap cs f t a w hs hL
  · replace hL : largeB cs = false := by simpa using hL
    by_cases hC : chkT cs = 0
    · by_cases hm : a < 0 ∨ f < 0 ∨ (len : Int) ≤ f ∨ t < 0 ∨ (len : Int) ≤ t
      · exact back_skip p len cap cs f t a w hs hL hC hm
      · obtain ⟨k, rfl⟩ : ∃ k : Nat, f = k := ⟨f.toNat, by omega⟩
        obtain ⟨j, rfl⟩ : ∃ j : Nat, t = j := ⟨t.toNat, by omega⟩
        exact back_main p len cap cs k j a w hs hL hC (by omega) (by omega) (by omega) ha.2
    · exact back_none p len cap cs f t a w hs hL hC

end Go.Proofs.Ytbljdjgbjnhcgaa
