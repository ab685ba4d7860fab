/- The walk of the law MoneyParts: it returns true for every three amounts, down and up. -/
import Derived.Test.YtllhpdohahoelaaV5
import Derived.Test.YtllhpdohahoelaaB2
namespace Go.Proofs.Ytllhpdohahoelaa
open Go.RowKit
set_option linter.unusedVariables false

/-- a quotient of exact numbers, down or up -/
theorem divB_any (v v' : Value) (L L' : Nat) (N N' : Int) (up : Bool) (w : World) (h : IsB w v L N) (h' : IsB w v' L' N') (hL : L ≤ 100) (hL' : L' ≤ 100) (hpos : 0 < N') :
    Calls Try.prog 71 #[v, v', .bool up] w (RetB w (L + 6) (divR N N' up)) := by
  obtain ⟨na, pa, la, ca, da, rfl, ha, _, _, hla, hN, _⟩ := h
  obtain ⟨nb, pb, lb, cb, db, rfl, hb, hlc, hpc, hlb, hN', hz, hz'⟩ := h'
  have hv := (val_bd hb.2.1).1
  cases nb
  · have hV : val db = N' := hN'
    refine (div_walk na up pa pb la lb ca cb da db (val da) N' w ha hb (by omega) (by omega) hlc hpc hz' rfl hV hpos).mono fun e w' hr => hr.more (by omega) ?_
    rw [hN]
  · exfalso
    unfold sgB at hN'
    simp at hN'
    omega

set_option maxRecDepth 100000 in
set_option maxHeartbeats 2000000 in
theorem mulDivR_any (a b c : Int) (up : Bool) (w : World) (ha : Amt a) (hb : Amt b) (c0 : 1 ≤ c) (c1 : c ≤ 9223372036854775807) :
    Calls Try.prog 72 #[.int .i64 a, .int .i64 b, .int .i64 c, .bool up] w fun e w' => e = .returned (.tuple #[.int .i64 (fitRV (divR (a * b) c up)), .int .i64 (fitRE (divR (a * b) c up))]) ∧ Below w.heap.size w w' := by
  obtain ⟨a0, a1⟩ := ha
  obtain ⟨b0, b1⟩ := hb
  go_enter Try.func72, Try.ntmps72
  go_wp2_with fail
  refine (of_any a _ a0 a1).mono ?_
  rintro e w1 ⟨v1, rfl, hv1, hb1⟩
  replace hv1 := Lib.hid hv1
  replace hb1 := Lib.hid hb1
  go_wp2_with fail
  refine (of_any b _ b0 b1).mono ?_
  rintro e w2 ⟨v2, rfl, hv2, hb2⟩
  replace hv1 := Lib.hid (hv1.out.kept hb2)
  replace hb2 := Lib.hid (chain_trans hb1.out hb2); clear hb1
  replace hv2 := Lib.hid hv2
  go_wp2_with fail
  refine (mulB_any v1 v2 5 5 a b _ hv1.out hv2.out (by omega) (by omega)).mono ?_
  rintro e w3 ⟨v3, rfl, hv3, hb3⟩
  replace hb3 := Lib.hid (chain_trans hb2.out hb3); clear hb2 hv1 hv2
  replace hv3 := Lib.hid hv3
  go_wp2_with fail
  refine (of_any c _ (by omega) c1).mono ?_
  rintro e w4 ⟨v4, rfl, hv4, hb4⟩
  replace hv3 := Lib.hid (hv3.out.kept hb4)
  replace hb4 := Lib.hid (chain_trans hb3.out hb4); clear hb3
  replace hv4 := Lib.hid hv4
  go_wp2_with fail
  refine (divB_any v3 v4 11 5 (a * b) c up _ hv3.out hv4.out (by omega) (by omega) (by omega)).mono ?_
  rintro e w5 ⟨v5, rfl, hv5, hb5⟩
  replace hb5 := Lib.hid (chain_trans hb4.out hb5); clear hb4 hv3 hv4
  replace hv5 := Lib.hid hv5
  go_wp2_with fail
  refine (fit_any v5 17 (divR (a * b) c up) _ hv5.out (by omega)).mono ?_
  rintro e w6 ⟨rfl, hb6⟩
  replace hb6 := Lib.hid (chain_trans hb5.out hb6); clear hb5 hv5
  go_wp2_with fail
  go_ret2
  exact ⟨rfl, hb6.out⟩

set_option maxHeartbeats 400000 in
theorem mulDivR_arg (a b c : Int) (up : Bool) (w : World) (c0 : c < 1) :
    Calls Try.prog 72 #[.int .i64 a, .int .i64 b, .int .i64 c, .bool up] w fun e w' => e = .returned (.tuple #[.int .i64 0, .int .i64 1]) ∧ w = w' := by
  go_enter Try.func72, Try.ntmps72
  go_wp2_with fail
  go_ret2
  exact ⟨rfl, rfl⟩

end Go.Proofs.Ytllhpdohahoelaa
