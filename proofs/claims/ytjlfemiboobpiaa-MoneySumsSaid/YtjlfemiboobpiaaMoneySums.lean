/- The walk of the law MoneySums: it returns true for every two amounts. -/
import Derived.Test.YtjlfemiboobpiaaR7
import Derived.Test.YtjlfemiboobpiaaR10
import Derived.Test.YtjlfemiboobpiaaB2
namespace Go.Proofs.Ytjlfemiboobpiaa
open Go.RowKit
set_option linter.unusedVariables false

/-- a number without its sign, as a Big -/
theorem IsB.size {w : World} {n : Bool} {p : Option Addr} {l c L : Nat} {N : Int} (h : IsB w (.agg #[.bool n, .slice p l c]) L N) : IsB w (.agg #[.bool false, .slice p l c]) L (absI N) := by
  obtain ⟨neg, p', len, cap, ds, h1, h2, h3, h4, h5, h6, h7, h8⟩ := h
  simp at h1
  obtain ⟨rfl, rfl, rfl, rfl⟩ := h1
  refine ⟨false, p, l, c, ds, rfl, h2, h3, h4, h5, ?_, fun _ => rfl, h8⟩
  have hv := (val_bd h2.2.1).1
  rw [← h6]
  unfold sgB absI
  cases n <;> simp <;> intro h <;> omega

theorem field_slice (n : Bool) (p : Option Addr) (l c : Nat) (w : World) : (Instr.field 29 (Value.agg #[.bool n, .slice p l c]) 1).run Try.prog w = .ok (.slice p l c) w := by kernel_rfl

set_option maxRecDepth 100000 in
set_option maxHeartbeats 4000000 in
theorem sums_any (a b : Int) (w : World) (ha : Amt a) (hb : Amt b) :
    Calls Try.prog 3 #[.int .i64 a, .int .i64 b] w fun e w' => e = .returned (.bool true) ∧ Below w.heap.size w w' := by
  obtain ⟨a0, a1⟩ := ha
  obtain ⟨b0, b1⟩ := hb
  go_enter Try.func3, Try.ntmps3
  go_wp2_with fail
  refine (awake_any _).mono ?_
  rintro e w1 ⟨rfl, hb1⟩
  replace hb1 := Lib.hid hb1
  go_wp2_with fail
  refine (add_any a b _ a0 a1 b0 b1).mono ?_
  rintro e w2 ⟨rfl, hb2⟩
  replace hb2 := Lib.hid (chain_trans hb1.out hb2); clear hb1
  go_wp2_with fail
  refine (of_any a _ a0 a1).mono ?_
  rintro e w3 ⟨v3, rfl, hv3, hb3⟩
  replace hb3 := Lib.hid (chain_trans hb2.out hb3); clear hb2
  replace hv3 := Lib.hid hv3
  go_wp2_with fail
  refine (of_any b _ b0 b1).mono ?_
  rintro e w4 ⟨v4, rfl, hv4, hb4⟩
  replace hv3 := Lib.hid (hv3.out.kept hb4)
  replace hb4 := Lib.hid (chain_trans hb3.out hb4); clear hb3
  replace hv4 := Lib.hid hv4
  go_wp2_with fail
  refine (addB_any v3 v4 5 a b _ hv3.out hv4.out (by omega)).mono ?_
  rintro e w5 ⟨v5, rfl, hv5, hb5⟩
  replace hb5 := Lib.hid (chain_trans hb4.out hb5); clear hb4 hv3 hv4
  replace hv5 := Lib.hid hv5
  go_wp2_with fail
  refine (fit_any v5 6 (a + b) _ hv5.out (by omega)).mono ?_
  rintro e w6 ⟨rfl, hb6⟩
  rw [show fitRV (a + b) = fitV (a + b) from rfl, show fitRE (a + b) = fitE (a + b) from rfl]
  replace hb6 := Lib.hid (chain_trans hb5.out hb6); clear hb5 hv5
  generalize fitV (a + b) = m1
  generalize fitE (a + b) = m2
  go_wp2_with fail
  refine (sub_any a b _ a0 a1 b0 b1).mono ?_
  rintro e w7 ⟨rfl, hb7⟩
  replace hb7 := Lib.hid (chain_trans hb6.out hb7); clear hb6
  go_wp2_with fail
  refine (of_any a _ a0 a1).mono ?_
  rintro e w8 ⟨v8, rfl, hv8, hb8⟩
  replace hb8 := Lib.hid (chain_trans hb7.out hb8); clear hb7
  replace hv8 := Lib.hid hv8
  go_wp2_with fail
  refine (of_any b _ b0 b1).mono ?_
  rintro e w9 ⟨v9, rfl, hv9, hb9⟩
  replace hv8 := Lib.hid (hv8.out.kept hb9)
  replace hb9 := Lib.hid (chain_trans hb8.out hb9); clear hb8
  replace hv9 := Lib.hid hv9
  go_wp2_with fail
  refine (turned_any v9 5 b _ hv9.out (by omega)).mono ?_
  rintro e w10 ⟨v10, rfl, hv10, hb10⟩
  replace hv8 := Lib.hid (hv8.out.kept hb10)
  replace hb10 := Lib.hid (chain_trans hb9.out hb10); clear hb9 hv9
  replace hv10 := Lib.hid hv10
  go_wp2_with fail
  refine (addB_any v8 v10 5 a (-b) _ hv8.out hv10.out (by omega)).mono ?_
  rintro e w11 ⟨v11, rfl, hv11, hb11⟩
  replace hb11 := Lib.hid (chain_trans hb10.out hb11); clear hb10 hv8 hv10
  replace hv11 := Lib.hid hv11
  go_wp2_with fail
  refine (fit_any v11 6 (a + -b) _ hv11.out (by omega)).mono ?_
  rintro e w12 ⟨rfl, hb12⟩
  rw [show fitRV (a + -b) = fitV (a - b) from rfl, show fitRE (a + -b) = fitE (a - b) from rfl]
  replace hb12 := Lib.hid (chain_trans hb11.out hb12); clear hb11 hv11
  generalize fitV (a - b) = m3
  generalize fitE (a - b) = m4
  go_wp2_with fail
  refine (mul_any a b _ a0 a1 b0 b1).mono ?_
  rintro e w13 ⟨rfl, hb13⟩
  replace hb13 := Lib.hid (chain_trans hb12.out hb13); clear hb12
  go_wp2_with fail
  refine (of_any a _ a0 a1).mono ?_
  rintro e w14 ⟨v14, rfl, hv14, hb14⟩
  replace hb14 := Lib.hid (chain_trans hb13.out hb14); clear hb13
  replace hv14 := Lib.hid hv14
  go_wp2_with fail
  refine (of_any b _ b0 b1).mono ?_
  rintro e w15 ⟨v15, rfl, hv15, hb15⟩
  replace hv14 := Lib.hid (hv14.out.kept hb15)
  replace hb15 := Lib.hid (chain_trans hb14.out hb15); clear hb14
  replace hv15 := Lib.hid hv15
  go_wp2_with fail
  refine (mulB_any v14 v15 5 5 a b _ hv14.out hv15.out (by omega) (by omega)).mono ?_
  rintro e w16 ⟨v16, rfl, hv16, hb16⟩
  replace hb16 := Lib.hid (chain_trans hb15.out hb16); clear hb15 hv14 hv15
  replace hv16 := Lib.hid hv16
  go_wp2_with fail
  refine (fit_any v16 11 (a * b) _ hv16.out (by omega)).mono ?_
  rintro e w17 ⟨rfl, hb17⟩
  rw [show fitRV (a * b) = fitV (a * b) from rfl, show fitRE (a * b) = fitE (a * b) from rfl]
  replace hb17 := Lib.hid (chain_trans hb16.out hb17); clear hb16 hv16
  generalize fitV (a * b) = m5
  generalize fitE (a * b) = m6
  go_wp2_with fail
  refine (size_any a _ a0 a1).mono ?_
  rintro e w18 ⟨rfl, rfl⟩
  go_wp2_with fail
  refine (of_any a _ a0 a1).mono ?_
  rintro e w19 ⟨v19, rfl, hv19, hb19⟩
  replace hb19 := Lib.hid (chain_trans hb17.out hb19); clear hb17
  obtain ⟨n19, p19, l19, c19, d19, rfl, h19⟩ := hv19
  have hv20 : Hid (IsB w19 (.agg #[.bool false, .slice p19 l19 c19]) 5 (absI a)) := IsB.size ⟨n19, p19, l19, c19, d19, rfl, h19⟩
  clear h19
  have hfs := field_slice n19 p19 l19 c19
  go_wp2_with fail
  refine (fit_any _ 5 (absI a) _ hv20.out (by omega)).mono ?_
  rintro e w20 ⟨rfl, hb20⟩
  rw [show fitRV (absI a) = fitV (absI a) from rfl, show fitRE (absI a) = fitE (absI a) from rfl]
  replace hb20 := Lib.hid (chain_trans hb19.out hb20); clear hb19 hv20
  generalize fitV (absI a) = m7
  generalize fitE (absI a) = m8
  go_wp2_with fail
  go_ret
  exact ⟨rfl, hb20.out⟩
end Go.Proofs.Ytjlfemiboobpiaa
