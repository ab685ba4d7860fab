/- awake over any ledger that keeps its contracts.
  Of each currency the balances are together the nostro: the law's walk over any ledger that keeps its contracts. -/
import Derived.Test.YtghebijikdnikaaLG10
import Derived.Test.YtghebijikdnikaaLI0
namespace Go.Proofs.Ytghebijikdnikaa
open Go.RowKit
set_option linter.unusedVariables false

def aw0 : LM := LM.new 2 2
def aw1 : LM := (aw0.inn 0 1 50).2
def aw2 : LM := (aw1.post [⟨0, 1, -20⟩, ⟨1, 1, 20⟩]).2
def aw3 : LM := (aw2.out 1 1 5).2
theorem aw1_e : (aw0.inn 0 1 50).1 = 0 := by decide +kernel
theorem aw2_e : (aw1.post [⟨0, 1, -20⟩, ⟨1, 1, 20⟩]).1 = 0 := by decide +kernel
theorem awc_e : (aw2.post [⟨0, 1, -20⟩]).1 = 12 := by decide +kernel
theorem awd_e : (aw2.out 1 1 21).1 = 10 := by decide +kernel
theorem aw3_e : (aw2.out 1 1 5).1 = 0 := by decide +kernel
theorem aw3_g0 : aw3.get 0 1 = 30 := by decide +kernel
theorem aw3_g1 : aw3.get 1 1 = 15 := by decide +kernel
theorem aw3_n : aw3.nos 1 = 45 := by decide +kernel
theorem aw3_nm : aw3.nm = 2 := by decide +kernel
theorem aw3_nc : aw3.nc = 2 := by decide +kernel
theorem aw_x : readL [120] = (2, none) := rfl
theorem aw0_good : aw0.Good := by
  obtain ⟨h1, h2⟩ := new_ok (nm := 2) (nc := 2) (by omega) (by omega)
  exact ⟨h1, h2⟩
theorem aw1_good : aw1.Good := (inn_good aw0_good _ _ _).1
theorem aw2_good : aw2.Good := (post_good aw1_good _).1
theorem aw3_good : aw3.Good := (out_good aw2_good _ _ _).1
theorem awc_s : (aw2.post [⟨0, 1, -20⟩]).2 = aw2 := (post_good aw2_good _).2.2 (by rw [awc_e]; decide)
theorem awd_s : (aw2.out 1 1 21).2 = aw2 := (out_good aw2_good _ _ _).2.2 (by rw [awd_e]; decide)
/-- a call has gone -/
theorem OSt.call {I : LI} {w0 wr w' : World} {b : Nat} {l k : LM} (h : OSt I w0 b l wr) (hL : I.IsL (fun j => w0.heap.size ≤ j) w' b k) (hK : Kp (fun j => w0.heap.size ≤ j) wr w') (hg : k.Good) : OSt I w0 b k w' :=
  ⟨hL, hg, h.blw.trans (hK.below h.blw.size (fun j hj e => by omega))⟩
theorem OSt.below {I : LI} {w0 wr w' : World} {b : Nat} {l : LM} (h : OSt I w0 b l wr) (hb : Below wr.heap.size wr w') : OSt I w0 b l w' :=
  ⟨(I.live b l).kept h.led (Kp.of_below (F := fun _ => False) hb) (fun _ _ _ h => h), h.good, h.blw.trans (hb.mono h.blw.size)⟩
theorem prow2 (w : World) : PRow (w.alloc (.cells #[.int .i64 0, .int .i64 1, .int .i64 (-20), .int .i64 1, .int .i64 1, .int .i64 20] 51)) (some ⟨w.heap.size, 0, none⟩) 2 [⟨0, 1, -20⟩, ⟨1, 1, 20⟩] := by
  have hb := heap_alloc_new w (.cells #[.int .i64 0, .int .i64 1, .int .i64 (-20), .int .i64 1, .int .i64 1, .int .i64 20] 51)
  refine ⟨rfl, fun q hq => ?_, .inr ⟨_, 0, rfl, obj_lt hb, fun i q hq => ?_⟩⟩
  · simp at hq
    rcases hq with rfl | rfl <;> decide
  · match i with
    | 0 => injection hq with hq; rw [← hq]; exact ⟨obj_cell hb rfl, obj_cell hb rfl, obj_cell hb rfl⟩
    | 1 => injection hq with hq; rw [← hq]; exact ⟨obj_cell hb rfl, obj_cell hb rfl, obj_cell hb rfl⟩
    | i + 2 => simp at hq
theorem prow1 (w : World) : PRow (w.alloc (.cells #[.int .i64 0, .int .i64 1, .int .i64 (-20)] 51)) (some ⟨w.heap.size, 0, none⟩) 1 [⟨0, 1, -20⟩] := by
  have hb := heap_alloc_new w (.cells #[.int .i64 0, .int .i64 1, .int .i64 (-20)] 51)
  refine ⟨rfl, fun q hq => ?_, .inr ⟨_, 0, rfl, obj_lt hb, fun i q hq => ?_⟩⟩
  · simp at hq
    rcases hq with rfl; decide
  · match i with
    | 0 => injection hq with hq; rw [← hq]; exact ⟨obj_cell hb rfl, obj_cell hb rfl, obj_cell hb rfl⟩
    | i + 1 => simp at hq

set_option maxHeartbeats 4000000 in
set_option maxRecDepth 100000 in
theorem awakeL_any (I : LI) (w : World) : Calls Try.prog 7 #[] w fun e w' => e = .returned (.bool true) ∧ Below w.heap.size w w' := by
  have cN : ∀ w, Calls Try.prog 9 #[.int .i64 2, .int .i64 2] w fun e w' => ∃ b, e = .returned (.tuple #[.pointer (some ⟨b, 0, none⟩), .int .i64 0]) ∧ OSt I w b aw0 w' := fun w => by
    refine (I.new 2 2 w).mono ?_
    rintro e w' ⟨h1, h2, h3⟩
    obtain ⟨b, e1, hL⟩ := h1 (by decide)
    exact ⟨b, e1, hL, aw0_good, h3⟩
  have cM : ∀ w, Calls Try.prog 9 #[.int .i64 0, .int .i64 1] w fun e w' => e = .returned (.tuple #[.pointer none, .int .i64 1]) ∧ Below w.heap.size w w' := fun w => by
    refine (I.new 0 1 w).mono ?_
    rintro e w' ⟨h1, h2, h3⟩
    exact ⟨h2 (by decide), h3⟩
  have cIn : ∀ b W, OSt I w b aw0 W → Calls Try.prog 24 #[.pointer (some ⟨b, 0, none⟩), .int .i64 0, .int .i64 1, .int .i64 50] W fun e w' => e = .returned (.int .i64 0) ∧ OSt I w b aw1 w' := fun b W h => by
    refine (I.inn _ b aw0 0 1 50 W h.led h.good (by decide) (fun i hi => by have := h.blw.size; omega)).mono ?_
    rintro e w' ⟨rfl, hL, hK⟩
    exact ⟨by rw [aw1_e], h.call hL hK aw1_good⟩
  have cP2 : ∀ b W, OSt I w b aw1 W → Calls Try.prog 23 #[.pointer (some ⟨b, 0, none⟩), .slice (some ⟨W.heap.size, 0, none⟩) 2 2] (W.alloc (.cells #[.int .i64 0, .int .i64 1, .int .i64 (-20), .int .i64 1, .int .i64 1, .int .i64 20] 51)) fun e w' => e = .returned (.int .i64 0) ∧ OSt I w b aw2 w' := fun b W h => by
    have h' := h.below ((Below.refl _ W).alloc (Nat.le_refl _) (.cells #[.int .i64 0, .int .i64 1, .int .i64 (-20), .int .i64 1, .int .i64 1, .int .i64 20] 51))
    refine (I.post _ b aw1 _ 2 2 _ _ h'.led h.good (prow2 W) (by omega) (fun i hi => by have := h'.blw.size; omega)).mono ?_
    rintro e w' ⟨rfl, hL, hK⟩
    exact ⟨by rw [aw2_e], h'.call hL hK aw2_good⟩
  have cP1 : ∀ b W, OSt I w b aw2 W → Calls Try.prog 23 #[.pointer (some ⟨b, 0, none⟩), .slice (some ⟨W.heap.size, 0, none⟩) 1 1] (W.alloc (.cells #[.int .i64 0, .int .i64 1, .int .i64 (-20)] 51)) fun e w' => e = .returned (.int .i64 12) ∧ OSt I w b aw2 w' := fun b W h => by
    have h' := h.below ((Below.refl _ W).alloc (Nat.le_refl _) (.cells #[.int .i64 0, .int .i64 1, .int .i64 (-20)] 51))
    refine (I.post _ b aw2 _ 1 1 _ _ h'.led h.good (prow1 W) (by omega) (fun i hi => by have := h'.blw.size; omega)).mono ?_
    rintro e w' ⟨rfl, hL, hK⟩
    rw [awc_s] at hL
    exact ⟨by rw [awc_e], h'.call hL hK aw2_good⟩
  have cO1 : ∀ b W, OSt I w b aw2 W → Calls Try.prog 25 #[.pointer (some ⟨b, 0, none⟩), .int .i64 1, .int .i64 1, .int .i64 21] W fun e w' => e = .returned (.int .i64 10) ∧ OSt I w b aw2 w' := fun b W h => by
    refine (I.out _ b aw2 1 1 21 W h.led h.good (by decide) (fun i hi => by have := h.blw.size; omega)).mono ?_
    rintro e w' ⟨rfl, hL, hK⟩
    rw [awd_s] at hL
    exact ⟨by rw [awd_e], h.call hL hK aw2_good⟩
  have cO2 : ∀ b W, OSt I w b aw2 W → Calls Try.prog 25 #[.pointer (some ⟨b, 0, none⟩), .int .i64 1, .int .i64 1, .int .i64 5] W fun e w' => e = .returned (.int .i64 0) ∧ OSt I w b aw3 w' := fun b W h => by
    refine (I.out _ b aw2 1 1 5 W h.led h.good (by decide) (fun i hi => by have := h.blw.size; omega)).mono ?_
    rintro e w' ⟨rfl, hL, hK⟩
    exact ⟨by rw [aw3_e], h.call hL hK aw3_good⟩
  have cS : ∀ b W, OSt I w b aw3 W → Calls Try.prog 26 #[.pointer (some ⟨b, 0, none⟩)] W fun e w' => e = .returned (.tuple #[.int .i64 2, .int .i64 2]) ∧ OSt I w b aw3 w' := fun b W h => by
    refine (I.size h.led).mono ?_
    rintro e w' ⟨rfl, hB⟩
    exact ⟨by rw [aw3_nm, aw3_nc]; rfl, h.below hB⟩
  have cT : ∀ b W, OSt I w b aw3 W → Calls Try.prog 16 #[.pointer (some ⟨b, 0, none⟩)] W fun e w' => e = .returned (.string ⟨aw3.text.toArray⟩) ∧ OSt I w b aw3 w' := fun b W h => by
    refine (I.text h.led h.good).mono ?_
    rintro e w' ⟨rfl, hB⟩
    exact ⟨rfl, h.below hB⟩
  have cR : ∀ b W, OSt I w b aw3 W → Calls Try.prog 22 #[.string ⟨aw3.text.toArray⟩] W fun e w' => ∃ b2, e = .returned (.tuple #[.pointer (some ⟨b2, 0, none⟩), .int .i64 0]) ∧ OSt I w b aw3 w' ∧ ∃ P, I.IsL P w' b2 aw3 := fun b W h => by
    have hl := text_length aw3
    rw [aw3_nm, aw3_nc] at hl
    refine (I.read ⟨aw3.text.toArray⟩ W (by rw [mk_size, hl]; decide)).mono ?_
    rintro e w' ⟨h1, h2, h3⟩
    rw [bl_mk] at h1
    obtain ⟨b2, e2, hL⟩ := h1 aw3 (read_text aw3_good)
    exact ⟨b2, e2, h.below h3, _, hL⟩
  have cX : ∀ b b2 W, OSt I w b aw3 W → (∃ P, I.IsL P W b2 aw3) → Calls Try.prog 22 #[.string ⟨#[120]⟩] W fun e w' => e = .returned (.tuple #[.pointer none, .int .i64 2]) ∧ OSt I w b aw3 w' ∧ ∃ P, I.IsL P w' b2 aw3 := fun b b2 W h ⟨P, hP⟩ => by
    refine (I.read ⟨#[120]⟩ W (by decide)).mono ?_
    rintro e w' ⟨h1, h2, h3⟩
    have e0 : bl (⟨#[120]⟩ : ByteArray) = [120] := by rw [show (⟨#[120]⟩ : ByteArray) = ⟨([120] : List UInt8).toArray⟩ from rfl, bl_mk]
    rw [e0, aw_x] at h2
    exact ⟨h2 rfl, h.below h3, P, (I.live b2 aw3).kept hP (Kp.of_below (F := fun _ => False) h3) (fun _ _ _ h => h)⟩
  have cG0 : ∀ b b2 W, OSt I w b aw3 W → (∃ P, I.IsL P W b2 aw3) → Calls Try.prog 18 #[.pointer (some ⟨b, 0, none⟩), .int .i64 0, .int .i64 1] W fun e w' => e = .returned (.int .i64 30) ∧ OSt I w b aw3 w' ∧ ∃ P, I.IsL P w' b2 aw3 := fun b b2 W h ⟨P, hP⟩ => by
    refine (I.get 0 1 h.led).mono ?_
    rintro e w' ⟨rfl, hB⟩
    exact ⟨by rw [aw3_g0], h.below hB, P, (I.live b2 aw3).kept hP (Kp.of_below (F := fun _ => False) hB) (fun _ _ _ h => h)⟩
  have cG1 : ∀ b b2 W, OSt I w b aw3 W → (∃ P, I.IsL P W b2 aw3) → Calls Try.prog 18 #[.pointer (some ⟨b, 0, none⟩), .int .i64 1, .int .i64 1] W fun e w' => e = .returned (.int .i64 15) ∧ OSt I w b aw3 w' ∧ ∃ P, I.IsL P w' b2 aw3 := fun b b2 W h ⟨P, hP⟩ => by
    refine (I.get 1 1 h.led).mono ?_
    rintro e w' ⟨rfl, hB⟩
    exact ⟨by rw [aw3_g1], h.below hB, P, (I.live b2 aw3).kept hP (Kp.of_below (F := fun _ => False) hB) (fun _ _ _ h => h)⟩
  have cNo : ∀ b b2 W, OSt I w b aw3 W → (∃ P, I.IsL P W b2 aw3) → Calls Try.prog 20 #[.pointer (some ⟨b, 0, none⟩), .int .i64 1] W fun e w' => e = .returned (.int .i64 45) ∧ OSt I w b aw3 w' ∧ ∃ P, I.IsL P w' b2 aw3 := fun b b2 W h ⟨P, hP⟩ => by
    refine (I.nos 1 h.led).mono ?_
    rintro e w' ⟨rfl, hB⟩
    exact ⟨by rw [aw3_n], h.below hB, P, (I.live b2 aw3).kept hP (Kp.of_below (F := fun _ => False) hB) (fun _ _ _ h => h)⟩
  have cK0 : ∀ b b2 W, OSt I w b aw3 W → (∃ P, I.IsL P W b2 aw3) → Calls Try.prog 18 #[.pointer (some ⟨b2, 0, none⟩), .int .i64 0, .int .i64 1] W fun e w' => e = .returned (.int .i64 30) ∧ Below w.heap.size w w' := fun b b2 W h ⟨P, hP⟩ => by
    refine (I.get 0 1 hP).mono ?_
    rintro e w' ⟨rfl, hB⟩
    exact ⟨by rw [aw3_g0], h.blw.trans (hB.mono h.blw.size)⟩
  generalize (⟨aw3.text.toArray⟩ : ByteArray) = S at *
  replace cN := Lib.hid cN
  replace cM := Lib.hid cM
  replace cIn := Lib.hid cIn
  replace cP2 := Lib.hid cP2
  replace cP1 := Lib.hid cP1
  replace cO1 := Lib.hid cO1
  replace cO2 := Lib.hid cO2
  replace cS := Lib.hid cS
  replace cT := Lib.hid cT
  replace cR := Lib.hid cR
  replace cX := Lib.hid cX
  replace cG0 := Lib.hid cG0
  replace cG1 := Lib.hid cG1
  replace cNo := Lib.hid cNo
  replace cK0 := Lib.hid cK0
  go_enter Try.func7, Try.ntmps7
  go_wp2_with fail
  with_reducible refine (cN.out _).mono ?_
  rintro e w1 ⟨b, rfl, hS1⟩
  replace hS1 := Lib.hid hS1
  go_wp2_with fail
  with_reducible refine (cM.out _).mono ?_
  rintro e w2 ⟨rfl, hB2⟩
  have hS2 := Lib.hid (hS1.out.below hB2)
  replace hB2 := Lib.hid hB2
  go_wp2_with fail
  with_reducible refine (cIn.out _ _ hS2.out).mono ?_
  rintro e w3 ⟨rfl, hS3⟩
  replace hS3 := Lib.hid hS3
  go_wp2_with fail
  with_reducible refine (cP2.out _ _ hS3.out).mono ?_
  rintro e w4 ⟨rfl, hS4⟩
  replace hS4 := Lib.hid hS4
  go_wp2_with fail
  with_reducible refine (cP1.out _ _ hS4.out).mono ?_
  rintro e w5 ⟨rfl, hS5⟩
  replace hS5 := Lib.hid hS5
  go_wp2_with fail
  with_reducible refine (cO1.out _ _ hS5.out).mono ?_
  rintro e w6 ⟨rfl, hS6⟩
  replace hS6 := Lib.hid hS6
  go_wp2_with fail
  with_reducible refine (cO2.out _ _ hS6.out).mono ?_
  rintro e w7 ⟨rfl, hS7⟩
  replace hS7 := Lib.hid hS7
  go_wp2_with fail
  with_reducible refine (cS.out _ _ hS7.out).mono ?_
  rintro e w8 ⟨rfl, hS8⟩
  replace hS8 := Lib.hid hS8
  go_wp2_with fail
  with_reducible refine (cT.out _ _ hS8.out).mono ?_
  rintro e w9 ⟨rfl, hS9⟩
  replace hS9 := Lib.hid hS9
  go_wp2_with fail
  with_reducible refine (cR.out _ _ hS9.out).mono ?_
  rintro e w10 ⟨b2, rfl, hS10, hK10⟩
  replace hS10 := Lib.hid hS10
  replace hK10 := Lib.hid hK10
  go_wp2_with fail
  with_reducible refine (cX.out _ _ _ hS10.out hK10.out).mono ?_
  rintro e w11 ⟨rfl, hS11, hK11⟩
  replace hS11 := Lib.hid hS11
  replace hK11 := Lib.hid hK11
  go_wp2_with fail
  with_reducible refine (cG0.out _ _ _ hS11.out hK11.out).mono ?_
  rintro e w12 ⟨rfl, hS12, hK12⟩
  replace hS12 := Lib.hid hS12
  replace hK12 := Lib.hid hK12
  go_wp2_with fail
  with_reducible refine (cG1.out _ _ _ hS12.out hK12.out).mono ?_
  rintro e w13 ⟨rfl, hS13, hK13⟩
  replace hS13 := Lib.hid hS13
  replace hK13 := Lib.hid hK13
  go_wp2_with fail
  with_reducible refine (cNo.out _ _ _ hS13.out hK13.out).mono ?_
  rintro e w14 ⟨rfl, hS14, hK14⟩
  replace hS14 := Lib.hid hS14
  replace hK14 := Lib.hid hK14
  go_wp2_with fail
  with_reducible refine (cK0.out _ _ _ hS14.out hK14.out).mono ?_
  rintro e w15 ⟨rfl, hB15⟩
  replace hB15 := Lib.hid hB15
  go_wp2_with fail
  go_ret
  exact ⟨rfl, hB15.out⟩
end Go.Proofs.Ytghebijikdnikaa
namespace Go.Proofs.Ytghebijikdnikaa
open Go.RowKit
set_option linter.unusedVariables false

theorem get_in {l : LM} {m c : Nat} (hm : m < l.nm) (hc : c < l.nc) : l.get (m : Int) (c : Int) = l.B m c := by
  unfold LM.get
  rw [if_pos (LM.has_iff.2 ⟨by omega, by omega, by omega, by omega⟩), Int.toNat_natCast, Int.toNat_natCast]
theorem nos_in {l : LM} {c : Nat} (hc : c < l.nc) : l.nos (c : Int) = l.N c := by
  unfold LM.nos
  rw [if_pos ⟨by omega, by omega⟩, Int.toNat_natCast]
theorem dos_like (l : LM) : ∀ ops : List LOp, l.Good → (l.dos ops).nm = l.nm ∧ (l.dos ops).nc = l.nc := fun ops => by
  unfold LM.dos
  induction ops generalizing l with
  | nil => exact fun _ => ⟨rfl, rfl⟩
  | cons x r ih =>
    intro h
    obtain ⟨h1, h2, _⟩ := doo_good h x
    obtain ⟨h3, h4⟩ := ih (l.doo x).2 h1
    exact ⟨h3.trans h2.1, h4.trans h2.2⟩
theorem new_good {nm nc : Int} (hok : newOk nm nc = true) : (LM.new nm.toNat nc.toNat).Good := by
  unfold newOk at hok
  have h := of_decide_eq_true hok
  obtain ⟨h1, h2⟩ := new_ok (nm := nm.toNat) (nc := nc.toNat) (by omega) (by omega)
  exact ⟨h1, h2⟩
/-- New, as the laws take it -/
theorem new_st (I : LI) (nm nc : Int) (w : World) : Calls Try.prog 9 #[.int .i64 nm, .int .i64 nc] w fun e w' => ∃ pv er, e = .returned (.tuple #[pv, er]) ∧
    Hid ((newOk nm nc = true → ∃ b, pv = .pointer (some ⟨b, 0, none⟩) ∧ er = .int .i64 0 ∧ OSt I w b (LM.new nm.toNat nc.toNat) w') ∧ (newOk nm nc = false → pv = .pointer none ∧ er = .int .i64 1 ∧ Below w.heap.size w w')) := by
  refine (I.new nm nc w).mono ?_
  rintro e w' ⟨h1, h2, h3⟩
  cases hok : newOk nm nc with
  | true =>
    obtain ⟨b, rfl, hL⟩ := h1 hok
    exact ⟨_, _, rfl, ⟨fun _ => ⟨b, rfl, rfl, hL, new_good hok, h3⟩, fun e => by simp at e⟩⟩
  | false =>
    have e := h2 hok
    subst e
    exact ⟨_, _, rfl, ⟨fun e => by simp at e, fun _ => ⟨rfl, rfl, h3⟩⟩⟩
/-- an operation, its box and the ledger -/
theorem do_st (I : LI) {w0 W : World} {b : Nat} {l : LM} {x : LOp} (h : OSt I w0 b l W) (hx : x.Ok W) (hlen : x.len ≤ 30) :
    Calls Try.prog 11 #[.pointer (some ⟨b, 0, none⟩), .agg x.arr] W fun e w' => e = .returned (.int .i64 (l.doo x).1) ∧ OSt I w0 b (l.doo x).2 w' := by
  refine (do_any I _ b l x W h.led h.good hx hlen (fun i hi => by have := h.blw.size; omega)).mono ?_
  rintro e w' ⟨rfl, hL, hK⟩
  exact ⟨rfl, h.call hL hK (doo_good h.good x).1⟩
/-- the law's middle way: so many members' balances are taken -/
structure GSt (W0 : World) (l : LM) (c m : Nat) (v : Value) (wr : World) : Prop where
  own : OwnI W0.heap.size wr v (colB l.B m c)
  blw : Below W0.heap.size W0 wr

set_option maxHeartbeats 8000000 in
set_option maxRecDepth 100000 in
theorem ledgerSums_any (I : LI) (nm nc : Int) (p : Option Addr) (len cap : Nat) (ops : List LOp) (w : World) (ho : OpsRow w p len ops) :
    Calls Try.prog 4 #[.int .i64 nm, .int .i64 nc, .slice p len cap] w fun e w' => e = .returned (.bool true) ∧ Below w.heap.size w w' := by
  have hA := Lib.hid fun w => awakeL_any I w
  replace ho := Lib.hid ho
  go_enter Try.func4, Try.ntmps4
  go_wp2_with fail
  with_reducible refine (hA.out _).mono ?_
  rintro e w1 ⟨rfl, hB1⟩
  have ho1 := ho.out.kept hB1
  have cL1 := large_any p len cap ops w1 ho1
  replace hB1 := Lib.hid hB1
  replace ho1 := Lib.hid ho1
  cases hc1 : manyO ops with
  | true =>
    rw [hc1] at cL1
    replace cL1 := Lib.hid cL1
    go_wp2_with fail
    with_reducible refine cL1.out.mono ?_
    rintro e z ⟨rfl, rfl⟩
    go_wp2_with fail
    go_ret
    exact ⟨rfl, hB1.out⟩
  | false =>
  rw [hc1] at cL1
  replace cL1 := Lib.hid cL1
  have cN := Lib.hid (new_st I nm nc w1)
  have hl40 : len ≤ 40 := by have := many_len hc1; have := ho1.out.1; omega
  go_wp2_with fail
  with_reducible refine cL1.out.mono ?_
  rintro e z ⟨rfl, rfl⟩
  go_wp2_with fail
  with_reducible refine cN.out.mono ?_
  rintro e w2 ⟨pv, er, rfl, hy⟩
  obtain ⟨hy, hn⟩ := hy.out
  cases hok : newOk nm nc with
  | false =>
    obtain ⟨rfl, rfl, hB2⟩ := hn hok
    have hB2' := Lib.hid (hB1.out.trans (hB2.mono hB1.out.size))
    clear hy hn
    replace hB2 := Lib.hid hB2
    go_wp2_with fail
    go_ret
    exact ⟨rfl, hB2'.out⟩
  | true =>
    obtain ⟨b, rfl, rfl, hO⟩ := hy hok
    clear hy hn
    have hnb := newOk_iff.1 hok
    obtain ⟨n, rfl⟩ : ∃ n : Nat, nm = n := ⟨nm.toNat, by omega⟩
    obtain ⟨d, rfl⟩ : ∃ d : Nat, nc = d := ⟨nc.toNat, by omega⟩
    simp only [Int.toNat_natCast] at hO
    have hgood := hO.good
    have hn0 : (LM.new n d).nm = n := rfl
    have hd0 : (LM.new n d).nc = d := rfl
    have hS0 : OSt I w1 b ((LM.new n d).dos (ops.take 0)) w2 := hO
    generalize LM.new n d = l0 at *
    replace hS0 := Lib.hid hS0
    replace hO := Lib.hid hO
    replace hgood := Lib.hid hgood
    replace hn0 := Lib.hid hn0
    replace hd0 := Lib.hid hd0
    replace hok := Lib.hid hok
    replace hc1 := Lib.hid hc1
    go_wp2_with fail
    go_loopw [36] (fun i wr => ∃ k : Nat, k ≤ len ∧ i = .int .i64 (k : Int) ∧ Hid (OSt I w1 b (l0.dos (ops.take k)) wr)) (fun i _ => len - (intOf i).toNat)
    case atStart => exact ⟨0, by omega, rfl, hS0⟩
    case round =>
      obtain ⟨k, hk, rfl, hS⟩ := hrel
      have hT := hS.out
      by_cases hkn : k < len
      · have kz : (k : Int) < (len : Int) := by omega
        obtain ⟨x, hx⟩ : ∃ x, ops[k]? = some x := ⟨_, List.getElem?_eq_getElem (by have := ho1.out.1; omega)⟩
        have hrow := ho1.out.kept hT.blw
        obtain ⟨rb, off, rfl, x0, x1, x2, x3, x4, x5, x6⟩ := hrow.at hx
        have hxok := (hrow.2.2.1 x (List.mem_of_getElem? hx)).1
        have hxl : x.len ≤ 30 := many_one hc1.out (List.mem_of_getElem? hx)
        have hnw := heap_alloc_new wr (.cells #[.int .i64 0, .int .i64 0, .int .i64 0, .int .i64 0, .int .i64 0, .int .i64 0, .slice none 0 0] 34)
        have hobj := setRow_heap _ _ _ x.arr _ _ hnw
        have hWB : Below wr.heap.size wr ((wr.alloc (.cells #[.int .i64 0, .int .i64 0, .int .i64 0, .int .i64 0, .int .i64 0, .int .i64 0, .slice none 0 0] 34)).setRow wr.heap.size x.arr) := below_setRow ((Below.refl _ _).alloc (Nat.le_refl _) _) (Nat.le_refl _) _
        have hWs : ((wr.alloc (.cells #[.int .i64 0, .int .i64 0, .int .i64 0, .int .i64 0, .int .i64 0, .int .i64 0, .slice none 0 0] 34)).setRow wr.heap.size x.arr).heap.size = wr.heap.size + 1 := by rw [setRow_size]; simp
        have hS2 := hT.below hWB
        have hdl := dos_like l0 (ops.take k) hgood.out
        have hds := dos_succ l0 ops k x hx
        have hdl2 := dos_like l0 (ops.take (k + 1)) hgood.out
        have hsame := (doo_good hT.good x).2.2
        generalize hlk : l0.dos (ops.take k) = lk at *
        generalize hln : l0.dos (ops.take (k + 1)) = ln at *
        have hdln : ln.nm = n ∧ ln.nc = d := ⟨hdl2.1.trans hn0.out, hdl2.2.trans hd0.out⟩
        have hxok2 := hxok.kept hWB
        have hOp : OpAt ((wr.alloc (.cells #[.int .i64 0, .int .i64 0, .int .i64 0, .int .i64 0, .int .i64 0, .int .i64 0, .slice none 0 0] 34)).setRow wr.heap.size x.arr) wr.heap.size 0 x := ⟨obj_cell hobj rfl, obj_cell hobj rfl, obj_cell hobj rfl, obj_cell hobj rfl, obj_cell hobj rfl, obj_cell hobj rfl, obj_cell hobj rfl⟩
        have hbl : wr.heap.size < ((wr.alloc (.cells #[.int .i64 0, .int .i64 0, .int .i64 0, .int .i64 0, .int .i64 0, .int .i64 0, .slice none 0 0] 34)).setRow wr.heap.size x.arr).heap.size := by rw [hWs]; omega
        have hgn : ln.Good := by rw [hds]; exact (doo_good hT.good x).1
        unfold LOp.arr at *
        replace hobj := Lib.hid hobj
        replace hWB := Lib.hid hWB
        replace hWs := Lib.hid hWs
        replace hT := Lib.hid hT
        replace hrow := Lib.hid hrow
        replace hxok := Lib.hid hxok
        replace hdl := Lib.hid hdl
        replace hdl2 := Lib.hid hdl2
        replace hds := Lib.hid hds
        replace hlk := Lib.hid hlk
        replace hln := Lib.hid hln
        replace hsame := Lib.hid hsame
        replace hx := Lib.hid hx
        go_upto_region 11 with (first | (refine wpList_store_row rfl 34 _ _ rfl wr.heap.size _ rfl rfl 34 _ hnw (by kernel_rfl) rfl (by simp [Value.oneCell']) ?_))
        generalize (wr.alloc (.cells #[.int .i64 0, .int .i64 0, .int .i64 0, .int .i64 0, .int .i64 0, .int .i64 0, .slice none 0 0] 34)).setRow wr.heap.size #[.int .i64 x.Do, .int .i64 x.m, .int .i64 x.c, .int .i64 x.v, .int .i64 x.a, .int .i64 x.g, .slice x.p x.len x.cap] = W at *
        have cT := I.text hS2.led hS2.good
        replace cT := Lib.hid cT
        replace hnw := Lib.hid hnw
        clear x0 x1 x2 x3 x4 x5 x6
        unfold sv at cT
        go_wp2_with fail
        with_reducible refine cT.out.mono ?_
        rintro e w3 ⟨rfl, hB3⟩
        have hS3 := hS2.below hB3
        obtain ⟨y0, y1, y2, y3, y4, y5, y6⟩ : OpAt w3 wr.heap.size 0 x := ⟨(hB3.cell (p := ⟨wr.heap.size, 0, none⟩) hbl).trans hOp.1, (hB3.cell (p := ⟨wr.heap.size, 1, none⟩) hbl).trans hOp.2.1, (hB3.cell (p := ⟨wr.heap.size, 2, none⟩) hbl).trans hOp.2.2.1, (hB3.cell (p := ⟨wr.heap.size, 3, none⟩) hbl).trans hOp.2.2.2.1, (hB3.cell (p := ⟨wr.heap.size, 4, none⟩) hbl).trans hOp.2.2.2.2.1, (hB3.cell (p := ⟨wr.heap.size, 5, none⟩) hbl).trans hOp.2.2.2.2.2.1, (hB3.cell (p := ⟨wr.heap.size, 6, none⟩) hbl).trans hOp.2.2.2.2.2.2⟩
        have cD := do_st I hS3 (hxok2.kept hB3) hxl
        rw [← hds.out] at cD
        unfold LOp.arr at cD
        replace cD := Lib.hid cD
        replace hS2 := Lib.hid hS2
        replace hS3 := Lib.hid hS3
        replace hB3 := Lib.hid hB3
        replace hOp := Lib.hid hOp
        replace hxok2 := Lib.hid hxok2
        go_upto_region 13 with (first | (go_at_call 11; (with_reducible refine cD.out.mono ?_); rintro e w4 ⟨rfl, hS4⟩; replace hS4 := Lib.hid hS4))
        clear y0 y1 y2 y3 y4 y5 y6
        have cT4 := I.text hS4.out.led hS4.out.good
        unfold sv at cT4
        have hsm : (lk.doo x).1 ≠ 0 → ln = lk := fun h => hds.out.trans (hsame.out h)
        replace hsm := Lib.hid hsm
        go_cut [12, 52] from 44 to 53 (fun v12 v52 wc => v52 = .bool false ∧ Hid (OSt I w1 b ln wc))
        case first =>
          by_cases hg0 : (lk.doo x).1 = 0
          · have hb0 : ((lk.doo x).1 == 0) = true := by simpa using hg0
            replace cT4 := Lib.hid cT4
            generalize (lk.doo x).1 = g at *
            replace hg0 := Lib.hid hg0
            go_wp2_with fail
            all_goals go_meet
            all_goals (try case rel => exact ⟨rfl, hS4⟩)
          · have hb0 : ((lk.doo x).1 == 0) = false := by simpa using hg0
            rw [hsm.out hg0] at cT4
            generalize (lk.doo x).1 = g at *
            generalize (⟨lk.text.toArray⟩ : ByteArray) = T at *
            replace cT4 := Lib.hid cT4
            replace hg0 := Lib.hid hg0
            go_wp2_with fail
            with_reducible refine cT4.out.mono ?_
            rintro e w5 ⟨rfl, hB5⟩
            have hS5 := Lib.hid (hS4.out.below hB5)
            replace hB5 := Lib.hid hB5
            go_wp2_with fail
            all_goals go_meet
            all_goals (try case rel => exact ⟨rfl, hS5⟩)
        case rest =>
          obtain ⟨rfl, hcut⟩ := hcut
          clear cT4
          go_wp2_with fail
          go_loopw [13] (fun i wr => ∃ c : Nat, c ≤ d ∧ i = .int .i64 (c : Int) ∧ Hid (OSt I w1 b ln wr)) (fun i _ => d - (intOf i).toNat)
          case atStart => exact ⟨0, by omega, rfl, hcut⟩
          case round =>
            obtain ⟨c, hc, rfl, hSc⟩ := hrel
            by_cases hcd : c < d
            · have cz : (c : Int) < (d : Int) := by omega
              have hcn : c < ln.nc := by rw [hdln.2]; exact hcd
              obtain ⟨W0, rfl⟩ : ∃ W0, W0 = wr := ⟨_, rfl⟩
              have hG0 : GSt W0 ln c 0 (.slice none 0 0) W0 := ⟨World.ownsRow_nil _ _ _ _, Below.refl _ _⟩
              replace hG0 := Lib.hid hG0
              go_wp2_with fail
              go_loopw [14, 15] (fun v i ws => ∃ m : Nat, m ≤ n ∧ i = .int .i64 (m : Int) ∧ Hid (GSt W0 ln c m v ws)) (fun _ i _ => n - (intOf i).toNat)
              case atStart => exact ⟨0, by omega, rfl, hG0⟩
              case round =>
                obtain ⟨m, hm, rfl, hG⟩ := hrel
                by_cases hmn : m < n
                · have mz : (m : Int) < (n : Int) := by omega
                  have hmn2 : m < ln.nm := by rw [hdln.1]; exact hmn
                  have hSm := hSc.out.below hG.out.blw
                  have cG := I.get (m : Int) (c : Int) hSm.led
                  rw [get_in hmn2 hcn] at cG
                  have hsc := colB_succ ln.B m c
                  generalize ln.B m c = y at *
                  replace cG := Lib.hid cG
                  replace hSm := Lib.hid hSm
                  replace hsc := Lib.hid hsc
                  go_upto_region 22 with (fail)
                  go_wp2_with fail
                  with_reducible refine cG.out.mono ?_
                  rintro e w5 ⟨rfl, hB5⟩
                  have hO5 : OwnI W0.heap.size (w5.alloc (.cells #[.int .i64 y] 2)) u14 (colB ln.B m c) := hG.out.own.block fun g hg => (Below.heap_alloc _ _ _ (Nat.lt_of_lt_of_le (hG.out.own.lt g hg).2 hB5.size)).trans (hB5.block g (hG.out.own.lt g hg).2)
                  have hB5' : Below W0.heap.size W0 w5 := hG.out.blw.trans (hB5.mono hG.out.blw.size)
                  obtain ⟨v', w6, hrun, hO6, hG6, _⟩ := appX_run _ W0.heap.size u14 _ hO5 (by have := hB5'.size; simp; omega) ⟨w5.heap.size, 0, none⟩ y (obj_cell (heap_alloc_new w5 _) rfl) (by rw [colB_len]; omega)
                  rw [← hsc.out] at hO6
                  have hGn : GSt W0 ln c (m + 1) v' w6 := ⟨hO6, (hB5'.alloc hB5'.size _).grown hG6 (by have := hB5'.size; simp; omega) (fun g hg => (hO5.lt g hg).1)⟩
                  replace hGn := Lib.hid hGn
                  replace hrun := Lib.hid hrun
                  replace hO5 := Lib.hid hO5
                  replace hO6 := Lib.hid hO6
                  replace hB5 := Lib.hid hB5
                  replace hB5' := Lib.hid hB5'
                  replace hG6 := Lib.hid hG6
                  go_wp2_with (at_builtin; refine wpList_run rfl (.tmp 63) (.tmp 68) 42 42 rfl _ _ _ _ rfl rfl hrun.out ?_)
                  go_roundw
                  case rel => exact ⟨m + 1, by omega, by go_num, hGn⟩
                  case measure => simp [intOf]; omega
                · obtain rfl : m = n := by omega
                  have mz : ¬ (m : Int) < (m : Int) := by omega
                  obtain ⟨pv, cv, hsh⟩ := hG.out.own.shape
                  subst hsh
                  have hin : ∀ y ∈ colB ln.B m c, In64 y := fun y hy => by
                    unfold colB at hy
                    obtain ⟨q, _, rfl⟩ := List.mem_map.1 hy
                    exact hgn.ok.b q c
                  have cS := sum_any pv _ cv _ _ (hG.out.own.seq hin (by rw [colB_len]; omega))
                  have hyN : sumL (colB ln.B m c) = ln.N c := by
                    rw [colB_sum, ← hdln.1]
                    exact hgn.sum.sum c hcn
                  have h64 := hgn.ok.n c
                  have hpos := hgn.sum.pos c hcn
                  rw [hyN, (fitE_in h64).1, (fitE_in h64).2] at cS
                  have hSm := hSc.out.below hG.out.blw
                  have hnos := nos_in (l := ln) hcn
                  have hneg : ¬ ln.N c < 0 := by omega
                  generalize (colB ln.B m c).length = nl at *
                  generalize ln.N c = y at *
                  replace cS := Lib.hid cS
                  replace hSm := Lib.hid hSm
                  replace hyN := Lib.hid hyN
                  replace h64 := Lib.hid h64
                  replace hin := Lib.hid hin
                  replace hnos := Lib.hid hnos
                  go_wp2_with fail
                  with_reducible refine cS.out.mono ?_
                  rintro e w5 ⟨rfl, hB5⟩
                  have hS5 := hSm.out.below hB5
                  have cNo := I.nos (c : Int) hS5.led
                  rw [hnos.out] at cNo
                  replace cNo := Lib.hid cNo
                  replace hS5 := Lib.hid hS5
                  replace hB5 := Lib.hid hB5
                  go_upto_region 24 with (fail)
                  go_wp2_with fail
                  with_reducible refine cNo.out.mono ?_
                  rintro e w6 ⟨rfl, hB6⟩
                  have hS6 := Lib.hid (hS5.out.below hB6)
                  replace hB6 := Lib.hid hB6
                  go_wp2_with fail
                  go_roundw
                  case rel => exact ⟨c + 1, by omega, by go_num, hS6⟩
                  case measure => simp [intOf]; omega
            · obtain rfl : c = d := by omega
              have cz : ¬ (c : Int) < (c : Int) := by omega
              rw [← hln.out] at hSc
              go_wp2_with fail
              go_roundw
              case rel => exact ⟨k + 1, by omega, by go_num, hSc⟩
              case measure => simp [intOf]; omega
      · obtain rfl : k = len := by omega
        have kz : ¬ (k : Int) < (k : Int) := by omega
        have hlg := hT.good
        generalize l0.dos (ops.take k) = l at *
        have cT : ∀ W, OSt I w1 b l W → Calls Try.prog 16 #[.pointer (some ⟨b, 0, none⟩)] W fun e w' => e = .returned (.string ⟨l.text.toArray⟩) ∧ OSt I w1 b l w' := fun W h => by
          refine (I.text h.led h.good).mono ?_
          rintro e w' ⟨rfl, hB⟩
          exact ⟨rfl, h.below hB⟩
        have cR : ∀ W, OSt I w1 b l W → Calls Try.prog 22 #[.string ⟨l.text.toArray⟩] W fun e w' => ∃ b2, e = .returned (.tuple #[.pointer (some ⟨b2, 0, none⟩), .int .i64 0]) ∧ OSt I w1 b l w' ∧ ∃ P, I.IsL P w' b2 l := fun W h => by
          have htl := text_length l
          have hmul : 8 * l.nc * (1 + l.nm) ≤ 8 * 8 * 17 := Nat.mul_le_mul (by have := hlg.ok.nc; omega) (by have := hlg.ok.nm; omega)
          refine (I.read ⟨l.text.toArray⟩ W (by rw [mk_size, htl]; omega)).mono ?_
          rintro e w' ⟨h1, h2, h3⟩
          rw [bl_mk] at h1
          obtain ⟨b2, e2, hL⟩ := h1 l (read_text hlg)
          exact ⟨b2, e2, h.below h3, _, hL⟩
        have cK : ∀ b2 W, OSt I w1 b l W → (∃ P, I.IsL P W b2 l) → Calls Try.prog 16 #[.pointer (some ⟨b2, 0, none⟩)] W fun e w' => e = .returned (.string ⟨l.text.toArray⟩) ∧ OSt I w1 b l w' := fun b2 W h ⟨P, hP⟩ => by
          refine (I.text hP h.good).mono ?_
          rintro e w' ⟨rfl, hB⟩
          exact ⟨rfl, h.below hB⟩
        generalize (⟨l.text.toArray⟩ : ByteArray) = T at *
        have hST := Lib.hid hT
        replace cT := Lib.hid cT
        replace cR := Lib.hid cR
        replace cK := Lib.hid cK
        replace hT := Lib.hid hT
        replace hlg := Lib.hid hlg
        go_wp2_with fail
        with_reducible refine (cT.out _ hST.out).mono ?_
        rintro e w5 ⟨rfl, hS5⟩
        replace hS5 := Lib.hid hS5
        go_wp2_with fail
        with_reducible refine (cR.out _ hS5.out).mono ?_
        rintro e w6 ⟨b2, rfl, hS6, hK6⟩
        replace hS6 := Lib.hid hS6
        replace hK6 := Lib.hid hK6
        go_wp2_with fail
        with_reducible refine (cK.out _ _ hS6.out hK6.out).mono ?_
        rintro e w7 ⟨rfl, hS7⟩
        replace hS7 := Lib.hid hS7
        go_wp2_with fail
        with_reducible refine (cT.out _ hS7.out).mono ?_
        rintro e w8 ⟨rfl, hS8⟩
        replace hS8 := Lib.hid hS8
        go_wp2_with fail
        go_ret
        exact ⟨rfl, hB1.out.trans (hS8.out.blw.mono hB1.out.size)⟩
end Go.Proofs.Ytghebijikdnikaa
