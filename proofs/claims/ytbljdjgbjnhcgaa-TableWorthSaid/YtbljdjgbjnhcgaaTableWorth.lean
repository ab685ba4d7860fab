/- The walk of the law TableWorth: it returns true for every table, every two places, every amount, down and up. -/
import Derived.Test.YtbljdjgbjnhcgaaW1
import Derived.Test.YtbljdjgbjnhcgaaW2
namespace Go.Proofs.Ytbljdjgbjnhcgaa
open Go.RowKit
set_option linter.unusedVariables false

/-- an answer where there is such a currency, or none -/
def ansV (b : Bool) (x : Int) : Int := if b then fitV x else 0
def ansE (b : Bool) (x : Int) : Int := if b then fitE x else 1
theorem to_nat {len : Nat} {cur : Int} (h : hasB len cur = true) : ∃ k : Nat, cur = k ∧ k < len := by
  unfold hasB at h
  simp at h
  exact ⟨cur.toNat, by omega, by omega⟩
theorem has_not {len : Nat} {cur : Int} (h : ¬ hasB len cur = true) : ¬ (0 ≤ cur ∧ cur < len) := fun k => h (has_yes k.1 k.2)

section
variable (p : Option Addr) (len cap : Nat) (cs : List Cur) (cur cur2 a : Int) (up : Bool) (w : World)
theorem worth_w (hs : Tab w p len cs) (ha : Amt a) (ho : ∀ i, i < len → oobB (cAt cs i) = false) :
    Calls Try.prog 17 #[.slice p len cap, .int .i64 cur, .int .i64 a] w fun e w' => e = .returned (.tuple #[.int .i64 (ansV (hasB len cur) (worthT (cAt cs cur.toNat) a)), .int .i64 (ansE (hasB len cur) (worthT (cAt cs cur.toNat) a))]) ∧ Below w.heap.size w w' := by
  by_cases h : hasB len cur = true
  · obtain ⟨k, rfl, hk⟩ := to_nat h
    rw [h]
    exact worth_any p len cap cs k a w hs hk ha (ho k hk)
  · rw [show hasB len cur = false by simpa using h]
    exact (worth_no p len cap cur a w (has_not h)).mono fun e w' ⟨he, hw⟩ => ⟨he, by subst hw; exact Below.refl _ _⟩
theorem worthR_w (hs : Tab w p len cs) (ha : Amt a) (ho : ∀ i, i < len → oobB (cAt cs i) = false) :
    Calls Try.prog 18 #[.slice p len cap, .int .i64 cur, .int .i64 a] w fun e w' => e = .returned (.tuple #[.int .i64 (ansV (hasB len cur) (worthT (cAt cs cur.toNat) a)), .int .i64 (ansE (hasB len cur) (worthT (cAt cs cur.toNat) a))]) ∧ Below w.heap.size w w' := by
  by_cases h : hasB len cur = true
  · obtain ⟨k, rfl, hk⟩ := to_nat h
    rw [h]
    exact worthR_any p len cap cs k a w hs hk ha (ho k hk)
  · rw [show hasB len cur = false by simpa using h]
    exact (worthR_no p len cap cur a w (has_not h)).mono fun e w' ⟨he, hw⟩ => ⟨he, by subst hw; exact Below.refl _ _⟩
theorem plain_w (hs : Tab w p len cs) (ha : Amt a) (ho : ∀ i, i < len → oobB (cAt cs i) = false) :
    Calls Try.prog 19 #[.slice p len cap, .int .i64 cur, .int .i64 a] w fun e w' => e = .returned (.tuple #[.int .i64 (ansV (hasB len cur) (plainT (cAt cs cur.toNat) a)), .int .i64 (ansE (hasB len cur) (plainT (cAt cs cur.toNat) a))]) ∧ Below w.heap.size w w' := by
  by_cases h : hasB len cur = true
  · obtain ⟨k, rfl, hk⟩ := to_nat h
    rw [h]
    exact plain_any p len cap cs k a w hs hk ha (ho k hk)
  · rw [show hasB len cur = false by simpa using h]
    exact (plain_no p len cap cur a w (has_not h)).mono fun e w' ⟨he, hw⟩ => ⟨he, by subst hw; exact Below.refl _ _⟩
theorem plainR_w (hs : Tab w p len cs) (ha : Amt a) (ho : ∀ i, i < len → oobB (cAt cs i) = false) :
    Calls Try.prog 20 #[.slice p len cap, .int .i64 cur, .int .i64 a] w fun e w' => e = .returned (.tuple #[.int .i64 (ansV (hasB len cur) (plainT (cAt cs cur.toNat) a)), .int .i64 (ansE (hasB len cur) (plainT (cAt cs cur.toNat) a))]) ∧ Below w.heap.size w w' := by
  by_cases h : hasB len cur = true
  · obtain ⟨k, rfl, hk⟩ := to_nat h
    rw [h]
    exact plainR_any p len cap cs k a w hs hk ha (ho k hk)
  · rw [show hasB len cur = false by simpa using h]
    exact (plainR_no p len cap cur a w (has_not h)).mono fun e w' ⟨he, hw⟩ => ⟨he, by subst hw; exact Below.refl _ _⟩
theorem two_not {len : Nat} {cur cur2 : Int} (h : ¬ (hasB len cur && hasB len cur2) = true) : ¬ ((0 ≤ cur ∧ cur < len) ∧ (0 ≤ cur2 ∧ cur2 < len)) := fun k => h (by rw [has_yes k.1.1 k.1.2, has_yes k.2.1 k.2.2]; rfl)
theorem change_w (hs : Tab w p len cs) (ha : Amt a) (ho : ∀ i, i < len → oobB (cAt cs i) = false) :
    Calls Try.prog 21 #[.slice p len cap, .int .i64 cur, .int .i64 cur2, .int .i64 a, .bool up] w fun e w' => e = .returned (.tuple #[.int .i64 (ansV (hasB len cur && hasB len cur2) (changeT (cAt cs cur.toNat) (cAt cs cur2.toNat) a up)), .int .i64 (ansE (hasB len cur && hasB len cur2) (changeT (cAt cs cur.toNat) (cAt cs cur2.toNat) a up))]) ∧ Below w.heap.size w w' := by
  by_cases h : (hasB len cur && hasB len cur2) = true
  · obtain ⟨k, rfl, hk⟩ := to_nat (Bool.and_eq_true_iff.1 h).1
    obtain ⟨j, rfl, hj⟩ := to_nat (Bool.and_eq_true_iff.1 h).2
    rw [h]
    exact change_any p len cap cs k j a up w hs hk hj ha (ho k hk) (ho j hj)
  · rw [show (hasB len cur && hasB len cur2) = false by simpa using h]
    exact (change_no p len cap cur cur2 a up w (two_not h)).mono fun e w' ⟨he, hw⟩ => ⟨he, by subst hw; exact Below.refl _ _⟩
theorem changeR_w (hs : Tab w p len cs) (ha : Amt a) (ho : ∀ i, i < len → oobB (cAt cs i) = false) :
    Calls Try.prog 22 #[.slice p len cap, .int .i64 cur, .int .i64 cur2, .int .i64 a, .bool up] w fun e w' => e = .returned (.tuple #[.int .i64 (ansV (hasB len cur && hasB len cur2) (changeT (cAt cs cur.toNat) (cAt cs cur2.toNat) a up)), .int .i64 (ansE (hasB len cur && hasB len cur2) (changeT (cAt cs cur.toNat) (cAt cs cur2.toNat) a up))]) ∧ Below w.heap.size w w' := by
  by_cases h : (hasB len cur && hasB len cur2) = true
  · obtain ⟨k, rfl, hk⟩ := to_nat (Bool.and_eq_true_iff.1 h).1
    obtain ⟨j, rfl, hj⟩ := to_nat (Bool.and_eq_true_iff.1 h).2
    rw [h]
    exact changeR_any p len cap cs k j a up w hs hk hj ha (ho k hk) (ho j hj)
  · rw [show (hasB len cur && hasB len cur2) = false by simpa using h]
    exact (changeR_no p len cap cur cur2 a up w (two_not h)).mono fun e w' ⟨he, hw⟩ => ⟨he, by subst hw; exact Below.refl _ _⟩
end

set_option maxHeartbeats 2000000 in
set_option maxRecDepth 100000 in
theorem worth_skip (p : Option Addr) (len cap : Nat) (cs : List Cur) (cur cur2 a : Int) (up : Bool) (w : World) (hs : Tab w p len cs) (hL : largeB cs = true ∨ ¬ chkT cs = 0) :
    Calls Try.prog 4 #[.slice p len cap, .int .i64 cur, .int .i64 cur2, .int .i64 a, .bool up] w fun e w' => e = .returned (.bool true) ∧ Below w.heap.size w w' := by
  go_enter Try.func4, Try.ntmps4
  go_wp2_with fail
  refine (awake_any _).mono ?_
  rintro e w1 ⟨rfl, hb1⟩
  have hs1 := hs.kept hb1
  have hcl := large_any p len cap cs w1 hs1
  have hcc := checkR_any p len cap cs w1 hs1
  replace hb1 := Lib.hid hb1
  clear hs
  by_cases hl : largeB cs = true
  · rw [hl] at hcl
    replace hcl := Lib.hid hcl
    clear hs1 hL hl hcc
    go_wp2_with fail
    refine hcl.out.mono ?_
    rintro e w2 ⟨rfl, rfl⟩
    go_wp2_with fail
    go_ret
    exact ⟨rfl, hb1.out⟩
  · have hC := hL.resolve_left hl
    generalize chkT cs = n at *
    have hn : (n != 0) = true := by simpa using hC
    rw [show largeB cs = false by simpa using hl] at hcl
    replace hcl := Lib.hid hcl
    replace hcc := Lib.hid hcc
    clear hs1 hL hl hC
    go_wp2_with fail
    refine hcl.out.mono ?_
    rintro e w2 ⟨rfl, rfl⟩
    go_wp2_with fail
    refine hcc.out.mono ?_
    rintro e w2 ⟨rfl, hb2⟩
    replace hb2 := Lib.hid (chain_trans hb1.out hb2)
    go_wp2_with fail
    go_ret
    exact ⟨rfl, hb2.out⟩

set_option maxHeartbeats 4000000 in
set_option maxRecDepth 100000 in
theorem worth_main (p : Option Addr) (len cap : Nat) (cs : List Cur) (cur cur2 a : Int) (up : Bool) (w : World) (hs : Tab w p len cs) (hL : largeB cs = false) (hC : chkT cs = 0) (ha : Amt a) :
    Calls Try.prog 4 #[.slice p len cap, .int .i64 cur, .int .i64 cur2, .int .i64 a, .bool up] w fun e w' => e = .returned (.bool true) ∧ Below w.heap.size w w' := by
  obtain ⟨_, _, hoo, _⟩ := chk_ok hC
  have hle := hs.1
  have ho : ∀ i, i < len → oobB (cAt cs i) = false := fun i hi => hoo i (by omega)
  go_enter Try.func4, Try.ntmps4
  go_wp2_with fail
  refine (awake_any _).mono ?_
  rintro e w1 ⟨rfl, hb1⟩
  replace hs := hs.kept hb1
  have hcl := large_any p len cap cs w1 hs
  rw [hL] at hcl
  replace hcl := Lib.hid hcl
  replace hb1 := Lib.hid hb1
  have hcc := checkR_any p len cap cs w1 hs
  rw [hC] at hcc
  replace hcc := Lib.hid hcc
  have c1 := fun w hs => worth_w p len cap cs cur a w hs ha ho
  have c2 := fun w hs => worthR_w p len cap cs cur a w hs ha ho
  have c3 := fun w hs => plain_w p len cap cs cur a w hs ha ho
  have c4 := fun w hs => plainR_w p len cap cs cur a w hs ha ho
  have c5 := fun w hs => change_w p len cap cs cur cur2 a up w hs ha ho
  have c6 := fun w hs => changeR_w p len cap cs cur cur2 a up w hs ha ho
  generalize ansV (hasB len cur) (worthT (cAt cs cur.toNat) a) = x1 at *
  generalize ansE (hasB len cur) (worthT (cAt cs cur.toNat) a) = y1 at *
  generalize ansV (hasB len cur) (plainT (cAt cs cur.toNat) a) = x2 at *
  generalize ansE (hasB len cur) (plainT (cAt cs cur.toNat) a) = y2 at *
  generalize ansV (hasB len cur && hasB len cur2) (changeT (cAt cs cur.toNat) (cAt cs cur2.toNat) a up) = x3 at *
  generalize ansE (hasB len cur && hasB len cur2) (changeT (cAt cs cur.toNat) (cAt cs cur2.toNat) a up) = y3 at *
  replace c1 := Lib.hid c1
  replace c2 := Lib.hid c2
  replace c3 := Lib.hid c3
  replace c4 := Lib.hid c4
  replace c5 := Lib.hid c5
  replace c6 := Lib.hid c6
  replace hs := Lib.hid hs
  clear hoo ho hL hC hle
  go_wp2_with fail
  refine hcl.out.mono ?_
  rintro e w2 ⟨rfl, rfl⟩
  go_wp2_with fail
  refine hcc.out.mono ?_
  rintro e w2 ⟨rfl, hb2⟩
  replace hs := Lib.hid (hs.out.kept hb2)
  replace hb2 := Lib.hid (chain_trans hb1.out hb2)
  clear hb1 hcc hcl
  go_wp2_with fail
  refine (c1.out _ hs.out).mono ?_
  rintro e w3 ⟨rfl, hb3⟩
  replace hs := Lib.hid (hs.out.kept hb3)
  replace hb3 := Lib.hid (chain_trans hb2.out hb3)
  clear hb2 c1
  go_wp2_with fail
  refine (c2.out _ hs.out).mono ?_
  rintro e w4 ⟨rfl, hb4⟩
  replace hs := Lib.hid (hs.out.kept hb4)
  replace hb4 := Lib.hid (chain_trans hb3.out hb4)
  clear hb3 c2
  go_wp2_with fail
  refine (c3.out _ hs.out).mono ?_
  rintro e w5 ⟨rfl, hb5⟩
  replace hs := Lib.hid (hs.out.kept hb5)
  replace hb5 := Lib.hid (chain_trans hb4.out hb5)
  clear hb4 c3
  go_wp2_with fail
  refine (c4.out _ hs.out).mono ?_
  rintro e w6 ⟨rfl, hb6⟩
  replace hs := Lib.hid (hs.out.kept hb6)
  replace hb6 := Lib.hid (chain_trans hb5.out hb6)
  clear hb5 c4
  go_wp2_with fail
  refine (c5.out _ hs.out).mono ?_
  rintro e w7 ⟨rfl, hb7⟩
  replace hs := Lib.hid (hs.out.kept hb7)
  replace hb7 := Lib.hid (chain_trans hb6.out hb7)
  clear hb6 c5
  go_wp2_with fail
  refine (c6.out _ hs.out).mono ?_
  rintro e w8 ⟨rfl, hb8⟩
  replace hb8 := Lib.hid (chain_trans hb7.out hb8)
  clear hb7 c6 hs
  go_wp2_with fail
  go_ret
  exact ⟨rfl, hb8.out⟩

theorem tableWorth_any (p : Option Addr) (len cap : Nat) (cs : List Cur) (cur cur2 a : Int) (up : Bool) (w : World) (hs : Tab w p len cs) (h1 : Amt cur) (h2 : Amt cur2) (ha : Amt a) :
    Calls Try.prog 4 #[.slice p len cap, .int .i64 cur, .int .i64 cur2, .int .i64 a, .bool up] w fun e w' => e = .returned (.bool true) ∧ Below w.heap.size w w' := by
  by_cases h : largeB cs = true ∨ ¬ chkT cs = 0
  · exact worth_skip p len cap cs cur cur2 a up w hs h
  · exact worth_main p len cap cs cur cur2 a up w hs (by by_cases h1 : largeB cs = true; exact absurd (.inl h1) h; simpa using h1) (by by_cases h1 : chkT cs = 0; exact h1; exact absurd (.inr h1) h) ha
end Go.Proofs.Ytbljdjgbjnhcgaa
