/- The walk of the law MoneyTotals: it returns true for every amount and every slice of amounts. -/
import Derived.Test.YtjlfemiboobpiaaR8
import Derived.Test.YtjlfemiboobpiaaB2
namespace Go.Proofs.Ytjlfemiboobpiaa
open Go.RowKit
set_option linter.unusedVariables false

set_option maxRecDepth 100000 in
set_option maxHeartbeats 2000000 in
theorem totals_long (a : Int) (p : Option Addr) (len cap : Nat) (w : World) (h : 200 < len) :
    Calls Try.prog 5 #[.int .i64 a, .slice p len cap] w fun e w' => e = .returned (.bool true) ∧ Below w.heap.size w w' := by
  have h1 : (200 : Int) < (len : Int) := by omega
  go_enter Try.func5, Try.ntmps5
  go_wp2_with fail
  refine (awake_any _).mono ?_
  rintro e w1 ⟨rfl, hb1⟩
  go_wp2_with fail
  go_ret
  exact ⟨rfl, hb1⟩

set_option maxRecDepth 100000 in
set_option maxHeartbeats 4000000 in
theorem totals_any (a : Int) (p : Option Addr) (len cap : Nat) (zs : List Int) (w : World) (ha : Amt a) (hs : Seq64 w p len zs) (hlen : len ≤ 200) :
    Calls Try.prog 5 #[.int .i64 a, .slice p len cap] w fun e w' => e = .returned (.bool true) ∧ Below w.heap.size w w' := by
  have h1 : ¬ (200 : Int) < (len : Int) := by omega
  replace hs := Lib.hid hs
  replace ha := Lib.hid ha
  go_enter Try.func5, Try.ntmps5
  go_wp2_with fail
  refine (awake_any _).mono ?_
  rintro e w1 ⟨rfl, hb1⟩
  replace hb1 := Lib.hid hb1
  go_wp2_with fail
  refine (sum_any p len cap zs _ (hs.out.kept hb1.out)).mono ?_
  rintro e w2 ⟨rfl, hb2⟩
  replace hb2 := Lib.hid (chain_trans hb1.out hb2); clear hb1
  go_wp2_with fail
  refine (total_any p len cap zs _ (hs.out.kept hb2.out) (by omega)).mono ?_
  rintro e w3 ⟨v3, rfl, hv3, hb3⟩
  replace hb3 := Lib.hid (chain_trans hb2.out hb3); clear hb2
  replace hv3 := Lib.hid hv3
  go_wp2_with fail
  refine (fit_any v3 (5 + len) (sumL zs) _ hv3.out (by omega)).mono ?_
  rintro e w4 ⟨rfl, hb4⟩
  rw [show fitRV (sumL zs) = fitV (sumL zs) from rfl, show fitRE (sumL zs) = fitE (sumL zs) from rfl]
  replace hb4 := Lib.hid (chain_trans hb3.out hb4); clear hb3 hv3
  go_wp2_with fail
  refine (chain_any a p len cap zs _ ha.out (hs.out.kept hb4.out)).mono ?_
  rintro e w5 ⟨rfl, hb5⟩
  replace hb5 := Lib.hid (chain_trans hb4.out hb5); clear hb4
  go_wp2_with fail
  refine (chainR_any a p len cap zs _ ha.out (hs.out.kept hb5.out) (by omega)).mono ?_
  rintro e w6 ⟨rfl, hb6⟩
  replace hb6 := Lib.hid (chain_trans hb5.out hb6); clear hb5
  generalize fitV (sumL zs) = m1
  generalize fitE (sumL zs) = m2
  generalize (chainL a zs).1 = m3
  generalize (chainL a zs).2 = m4
  go_wp2_with fail
  go_ret
  exact ⟨rfl, hb6.out⟩
end Go.Proofs.Ytjlfemiboobpiaa
