/- The contract of the law's awake. -/
import Derived.Test.YtllhpdohahoelaaWL
import Derived.Test.YtllhpdohahoelaaWK
namespace Go.Proofs.Ytllhpdohahoelaa
open Go.RowKit
set_option linter.unusedVariables false

/-- worths made of a ledger lie apart from it -/
theorem WSt.made {G : Nat → Prop} {PF : Nat → Prop} {wr w' : World} {lb b : Nat} {l : LM} {x : WM} (hL : PL PF wr lb l) (hg : l.Good) (hp : ∀ j, j < wr.heap.size → PF j → ¬ G j) (hGl : ∀ j, G j → j < wr.heap.size) (hW : WP (fun j => wr.heap.size ≤ j) w' b lb x) (hb : Below wr.heap.size wr w') : WSt G lb b l x w' := by
  refine ⟨⟨fun j => wr.heap.size ≤ j ∧ j < w'.heap.size, fun j => PF j ∧ j < wr.heap.size, (WP.live b lb x).weak hW fun j hj hp => ⟨hp, hj⟩,
    (PL.live lb l).kept ((PL.live lb l).weak hL (fun j hj hp => ⟨hp, hj⟩)) (Kp.of_below (F := fun _ => False) hb) (fun _ _ _ h => h), fun j hj => ⟨fun h => by omega, fun h => by have := hGl j h; omega, hj.2⟩, fun j hj => ⟨fun h => hp j hj.2 hj.1 h, Nat.lt_of_lt_of_le hj.2 hb.size⟩⟩, hg, fun j hj => Nat.lt_of_lt_of_le (hGl j hj) hb.size⟩

def wl0 : LM := LM.new 2 2
def wl1 : LM := (wl0.inn 0 0 10).2
def wl2 : LM := (wl1.inn 1 1 100).2
def wl3 : LM := (wl2.post [⟨0, 1, -100⟩, ⟨1, 1, 100⟩]).2
def awx : WM := WM.new euro wl3
def euro2 : List Cur := euro.set 1 { cAt euro 1 with rate := 10000 }
def awy : WM := ⟨euro2, awx.nm, awx.S⟩
theorem wl0_good : wl0.Good := by
  obtain ⟨h1, h2⟩ := new_ok (nm := 2) (nc := 2) (by omega) (by omega)
  exact ⟨h1, h2⟩
theorem wl1_good : wl1.Good := (inn_good wl0_good _ _ _).1
theorem wl2_good : wl2.Good := (inn_good wl1_good _ _ _).1
theorem wl3_good : wl3.Good := (post_good wl2_good _).1
theorem wl3_nc : wl3.nc = 2 := by decide +kernel
theorem awx_net : awx.net 0 = (-118, 0) := by decide +kernel
theorem awx_short : awx.short 0 = (125, 0) := by decide +kernel
theorem awx_if : awx.iff 0 [⟨0, 1, 100⟩] = (10, 0, 0) := by decide +kernel
theorem awy_net : awy.net 0 = (-92, 0) := by decide +kernel
theorem awy_none : awy.net 2 = (0, 1) := by decide +kernel
theorem chk_euro2 : chkT euro2 = 0 := chk_two eur ⟨usd.code, 10000, 200⟩ cap_eur cap_usd eur_usd (by decide) (by decide) (by decide)
theorem chk_euro3 : ¬ chkT (euro2.set 1 { cAt euro2 1 with cut := 10001 }) = 0 := fun h => by
  have h1 := (chk_ok h).2.2.1 1 (by decide)
  revert h1
  decide
theorem chk_eur : chkT [eur] = 0 := by
  unfold chkT
  rw [if_neg (by simp), if_neg (by simp [missC, miss_cap cap_eur]), if_neg, if_neg]
  · rintro (h | h)
    · revert h; decide
    · revert h; decide
  · rw [tw_no]
    · simp
    · rintro ⟨j, hj, i, hi, h⟩
      simp at hj
      omega
theorem awx_rate : awx.rate 1 10000 = (0, awy) := by
  unfold WM.rate
  rw [if_pos (by decide +kernel)]
  exact if_pos chk_euro2
theorem awy_cut : awy.cutt 1 10001 = (1, awy) := by
  unfold WM.cutt
  rw [if_pos (by decide +kernel)]
  exact if_neg chk_euro3
theorem tab_fst {w : World} {g : Nat} (h : Tab w (some ⟨g, 0, none⟩) 2 euro) : Tab w (some ⟨g, 0, none⟩) 1 [eur] := by
  obtain ⟨_, h2, _, h4⟩ := h
  obtain ⟨b, off, e, hlt, hc⟩ := h4.resolve_left (by decide)
  refine ⟨rfl, fun i => ?_, by decide, .inr ⟨b, off, e, hlt, fun i hi => ?_⟩⟩
  · by_cases e0 : i = 0
    · subst e0; exact h2 0
    · unfold cAt
      rw [List.getD_eq_getElem?_getD, List.getElem?_eq_none (by simp; omega)]
      exact curOk_zero
  · obtain rfl : i = 0 := by omega
    exact hc 0 (by omega)
theorem prow2 (w : World) : PRow (w.alloc (.cells #[.int .i64 0, .int .i64 1, .int .i64 (-100), .int .i64 1, .int .i64 1, .int .i64 100] 65)) (some ⟨w.heap.size, 0, none⟩) 2 [⟨0, 1, -100⟩, ⟨1, 1, 100⟩] := by
  have hb := heap_alloc_new w (.cells #[.int .i64 0, .int .i64 1, .int .i64 (-100), .int .i64 1, .int .i64 1, .int .i64 100] 65)
  refine ⟨rfl, fun q hq => ?_, .inr ⟨_, 0, rfl, obj_lt hb, fun i q hq => ?_⟩⟩
  · simp at hq
    rcases hq with rfl | rfl <;> decide
  · match i with
    | 0 => injection hq with hq; rw [← hq]; exact ⟨obj_cell hb rfl, obj_cell hb rfl, obj_cell hb rfl⟩
    | 1 => injection hq with hq; rw [← hq]; exact ⟨obj_cell hb rfl, obj_cell hb rfl, obj_cell hb rfl⟩
    | i + 2 => simp at hq
theorem prow1 (w : World) : PRow (w.alloc (.cells #[.int .i64 0, .int .i64 1, .int .i64 100] 65)) (some ⟨w.heap.size, 0, none⟩) 1 [⟨0, 1, 100⟩] := by
  have hb := heap_alloc_new w (.cells #[.int .i64 0, .int .i64 1, .int .i64 100] 65)
  refine ⟨rfl, fun q hq => ?_, .inr ⟨_, 0, rfl, obj_lt hb, fun i q hq => ?_⟩⟩
  · simp at hq
    rcases hq with rfl; decide
  · match i with
    | 0 => injection hq with hq; rw [← hq]; exact ⟨obj_cell hb rfl, obj_cell hb rfl, obj_cell hb rfl⟩
    | i + 1 => simp at hq
/-- a ledger behind a world, and a table of its own -/
structure AL (w : World) (lb : Nat) (l : LM) (wr : World) : Prop where
  led : PL (fun j => w.heap.size + 1 ≤ j) wr lb l
  good : l.Good
  tab : Tab wr (some ⟨w.heap.size, 0, none⟩) 2 euro
  blw : Below (w.heap.size + 1) (w.alloc (.cells #[.string ⟨#[69, 85, 82]⟩, .int .i64 10000, .int .i64 0, .string ⟨#[85, 83, 68]⟩, .int .i64 12500, .int .i64 200] 49)) wr
theorem AL.call {w wr w' : World} {lb : Nat} {l k : LM} (h : AL w lb l wr) (hL : PL (fun j => w.heap.size + 1 ≤ j) w' lb k) (hK : Kp (fun j => w.heap.size + 1 ≤ j) wr w') (hg : k.Good) : AL w lb k w' := by
  have hs := h.blw.size
  simp at hs
  have hb : Below (w.heap.size + 1) wr w' := hK.below hs (fun j hj e => by omega)
  exact ⟨hL, hg, h.tab.at (by omega) hK.size (hb.block _ (by omega)), h.blw.trans hb⟩
theorem AL.below {w wr w' : World} {lb : Nat} {l : LM} (h : AL w lb l wr) (hb : Below wr.heap.size wr w') : AL w lb l w' := by
  have hs := h.blw.size
  simp at hs
  exact ⟨(PL.live lb l).kept h.led (Kp.of_below (F := fun _ => False) hb) (fun _ _ _ h => h), h.good, h.tab.kept hb, h.blw.trans (hb.mono hs)⟩
theorem AL.all {w wr : World} {lb : Nat} {l : LM} (h : AL w lb l wr) : Below w.heap.size w wr := ((Below.refl _ w).alloc (Nat.le_refl _) _).trans (h.blw.mono (by omega))

/-- behind New: a ledger, worths, the table -/
structure AW (w : World) (lb b : Nat) (l : LM) (x : WM) (wr : World) : Prop where
  st : WSt (fun j => j < w.heap.size + 1) lb b l x wr
  tab : Tab wr (some ⟨w.heap.size, 0, none⟩) 2 euro
  blw : Below w.heap.size w wr
theorem AW.below {w wr w' : World} {lb b : Nat} {l : LM} {x : WM} (h : AW w lb b l x wr) (hb : Below wr.heap.size wr w') : AW w lb b l x w' := ⟨h.st.below hb, h.tab.kept hb, h.blw.trans (hb.mono h.blw.size)⟩
theorem AW.call {w wr w' : World} {lb b : Nat} {l k : LM} {x y : WM} (h : AW w lb b l x wr) (hS : WSt (fun j => j < w.heap.size + 1) lb b k y w') (hK : Kp (fun j => ¬ j < w.heap.size + 1) wr w') : AW w lb b k y w' := by
  have hs := h.st.lt w.heap.size (by omega)
  have hb : Below (w.heap.size + 1) wr w' := hK.below hs (fun j hj e => e (by omega))
  exact ⟨hS, h.tab.at hs hK.size (hb.block _ (by omega)), h.blw.trans (hb.mono (by omega))⟩

set_option maxHeartbeats 8000000 in
set_option maxRecDepth 100000 in
theorem awake_any (w : World) : Calls Try.prog 6 #[] w fun e w' => e = .returned (.bool true) ∧ Below w.heap.size w w' := by
  have hT0 := tab_lit w
  have hs1 : (w.alloc (.cells #[.string ⟨#[69, 85, 82]⟩, .int .i64 10000, .int .i64 0, .string ⟨#[85, 83, 68]⟩, .int .i64 12500, .int .i64 200] 49)).heap.size = w.heap.size + 1 := by simp
  have cN : Calls Try.prog 8 #[.int .i64 2, .int .i64 2] (w.alloc (.cells #[.string ⟨#[69, 85, 82]⟩, .int .i64 10000, .int .i64 0, .string ⟨#[85, 83, 68]⟩, .int .i64 12500, .int .i64 200] 49)) fun e w' => ∃ b, e = .returned (.tuple #[.pointer (some ⟨b, 0, none⟩), .int .i64 0]) ∧ AL w b wl0 w' := by
    refine (new_any 2 2 _).mono ?_
    rintro e w' ⟨h1, h2, h3⟩
    obtain ⟨b, e1, hL⟩ := h1 (by decide)
    rw [hs1] at hL
    exact ⟨b, e1, hL, wl0_good, hT0.kept h3, by rw [hs1] at h3; exact h3⟩
  have cI0 : ∀ b W, AL w b wl0 W → Calls Try.prog 26 #[.pointer (some ⟨b, 0, none⟩), .int .i64 0, .int .i64 0, .int .i64 10] W fun e w' => (∃ n, e = .returned (.int .i64 n)) ∧ AL w b wl1 w' := fun b W h => by
    refine (in_any _ b wl0 0 0 10 W h.led h.good (by decide) (fun i hi => by have := h.blw.size; simp at this; omega)).mono ?_
    rintro e w' ⟨rfl, hL, hK⟩
    exact ⟨⟨_, rfl⟩, h.call hL hK wl1_good⟩
  have cI1 : ∀ b W, AL w b wl1 W → Calls Try.prog 26 #[.pointer (some ⟨b, 0, none⟩), .int .i64 1, .int .i64 1, .int .i64 100] W fun e w' => (∃ n, e = .returned (.int .i64 n)) ∧ AL w b wl2 w' := fun b W h => by
    refine (in_any _ b wl1 1 1 100 W h.led h.good (by decide) (fun i hi => by have := h.blw.size; simp at this; omega)).mono ?_
    rintro e w' ⟨rfl, hL, hK⟩
    exact ⟨⟨_, rfl⟩, h.call hL hK wl2_good⟩
  have cP : ∀ b W, AL w b wl2 W → Calls Try.prog 27 #[.pointer (some ⟨b, 0, none⟩), .slice (some ⟨W.heap.size, 0, none⟩) 2 2] (W.alloc (.cells #[.int .i64 0, .int .i64 1, .int .i64 (-100), .int .i64 1, .int .i64 1, .int .i64 100] 65)) fun e w' => (∃ n, e = .returned (.int .i64 n)) ∧ AL w b wl3 w' := fun b W h => by
    have h' := h.below ((Below.refl _ W).alloc (Nat.le_refl _) (.cells #[.int .i64 0, .int .i64 1, .int .i64 (-100), .int .i64 1, .int .i64 1, .int .i64 100] 65))
    refine (post_any _ b wl2 _ 2 2 _ _ h'.led h.good (prow2 W) (by omega) (fun i hi => by have := h'.blw.size; simp at this hi; omega)).mono ?_
    rintro e w' ⟨rfl, hL, hK⟩
    exact ⟨⟨_, rfl⟩, h'.call hL hK wl3_good⟩
  have cW : ∀ b W, AL w b wl3 W → Calls Try.prog 10 #[.slice (some ⟨w.heap.size, 0, none⟩) 2 2, .pointer (some ⟨b, 0, none⟩)] W fun e w' => ∃ b2, e = .returned (.tuple #[.pointer (some ⟨b2, 0, none⟩), .int .i64 0]) ∧ AW w b b2 wl3 awx w' := fun b W h => by
    refine (wnew_any W h.tab h.led h.good).mono ?_
    rintro e w' ⟨_, _, h3, h4⟩
    obtain ⟨b2, e1, hW⟩ := h3 chk_euro (by rw [wl3_nc]; rfl)
    exact ⟨b2, e1, WSt.made h.led h.good (fun j hj hp hg => by omega) (fun j hj => by have := h.blw.size; simp at this; omega) hW h4, h.tab.kept h4, h.all.trans (h4.mono h.all.size)⟩
  have cW1 : ∀ b b2 W, AW w b b2 wl3 awx W → Calls Try.prog 10 #[.slice (some ⟨w.heap.size, 0, none⟩) 1 2, .pointer (some ⟨b, 0, none⟩)] W fun e w' => e = .returned (.tuple #[.pointer none, .int .i64 1]) ∧ AW w b b2 wl3 awx w' := fun b b2 W h => by
    obtain ⟨P, hP⟩ := h.st.pl
    refine (wnew_any W (tab_fst h.tab) hP h.st.good).mono ?_
    rintro e w' ⟨_, h2, _, h4⟩
    exact ⟨h2 chk_eur (by rw [wl3_nc]; decide), h.below h4⟩
  have cNet : ∀ b b2 W, AW w b b2 wl3 awx W → Calls Try.prog 19 #[.pointer (some ⟨b2, 0, none⟩), .int .i64 0] W fun e w' => e = .returned (.tuple #[.int .i64 (-118), .int .i64 0]) ∧ AW w b b2 wl3 awx w' := fun b b2 W h => by
    obtain ⟨P, hP⟩ := h.st.wp
    refine (net_any 0 W hP).mono ?_
    rintro e w' ⟨rfl, hb⟩
    exact ⟨by rw [awx_net], h.below hb⟩
  have cSh : ∀ b b2 W, AW w b b2 wl3 awx W → Calls Try.prog 20 #[.pointer (some ⟨b2, 0, none⟩), .int .i64 0] W fun e w' => e = .returned (.tuple #[.int .i64 125, .int .i64 0]) ∧ AW w b b2 wl3 awx w' := fun b b2 W h => by
    obtain ⟨P, hP⟩ := h.st.wp
    refine (short_any 0 W hP).mono ?_
    rintro e w' ⟨rfl, hb⟩
    exact ⟨by rw [awx_short], h.below hb⟩
  have cIf : ∀ b b2 W, AW w b b2 wl3 awx W → Calls Try.prog 21 #[.pointer (some ⟨b2, 0, none⟩), .int .i64 0, .slice (some ⟨W.heap.size, 0, none⟩) 1 1] (W.alloc (.cells #[.int .i64 0, .int .i64 1, .int .i64 100] 65)) fun e w' => e = .returned (.tuple #[.int .i64 10, .int .i64 0, .int .i64 0]) ∧ AW w b b2 wl3 awx w' := fun b b2 W h => by
    have h' := h.below ((Below.refl _ W).alloc (Nat.le_refl _) (.cells #[.int .i64 0, .int .i64 1, .int .i64 100] 65))
    obtain ⟨P, hP⟩ := h'.st.wp
    refine (if_any 0 _ 1 1 _ _ hP (prow1 W) (by omega)).mono ?_
    rintro e w' ⟨rfl, hb⟩
    exact ⟨by rw [awx_if], h'.below hb⟩
  have cRt : ∀ b b2 W, AW w b b2 wl3 awx W → Calls Try.prog 28 #[.pointer (some ⟨b2, 0, none⟩), .int .i64 1, .int .i64 10000] W fun e w' => e = .returned (.int .i64 0) ∧ AW w b b2 wl3 awy w' := fun b b2 W h => by
    have hr := h.st.rate 1 10000 (by decide)
    rw [awx_rate] at hr
    refine hr.mono ?_
    rintro e w' ⟨rfl, hS, hK⟩
    exact ⟨rfl, h.call hS hK⟩
  have cCt : ∀ b b2 W, AW w b b2 wl3 awy W → Calls Try.prog 25 #[.pointer (some ⟨b2, 0, none⟩), .int .i64 1, .int .i64 10001] W fun e w' => e = .returned (.int .i64 1) ∧ AW w b b2 wl3 awy w' := fun b b2 W h => by
    have hr := h.st.cutt 1 10001 (by decide)
    rw [awy_cut] at hr
    refine hr.mono ?_
    rintro e w' ⟨rfl, hS, hK⟩
    exact ⟨rfl, h.call hS hK⟩
  have cNe2 : ∀ b b2 W, AW w b b2 wl3 awy W → Calls Try.prog 19 #[.pointer (some ⟨b2, 0, none⟩), .int .i64 0] W fun e w' => e = .returned (.tuple #[.int .i64 (-92), .int .i64 0]) ∧ AW w b b2 wl3 awy w' := fun b b2 W h => by
    obtain ⟨P, hP⟩ := h.st.wp
    refine (net_any 0 W hP).mono ?_
    rintro e w' ⟨rfl, hb⟩
    exact ⟨by rw [awy_net], h.below hb⟩
  have cTb : ∀ b b2 W, AW w b b2 wl3 awy W → Calls Try.prog 18 #[.pointer (some ⟨b2, 0, none⟩)] W fun e w' => ∃ g c, e = .returned (.slice (some ⟨g, 0, none⟩) 2 c) ∧ AW w b b2 wl3 awy w' ∧ w'.cell? ⟨g, 4, none⟩ = some (.int .i64 10000) := fun b b2 W h => by
    obtain ⟨P, hP⟩ := h.st.wp
    refine (table_any W hP).mono ?_
    rintro e w' ⟨g, c, rfl, hT, _, _, hb⟩
    refine ⟨g, c, rfl, h.below hb, ?_⟩
    obtain ⟨_, _, _, hc⟩ := hT
    obtain ⟨b', off, e, hlt, hc⟩ := hc.resolve_left (by decide)
    injection e with e
    injection e with e1 e2
    subst e1; subst e2
    exact (hc 1 (by decide)).2.1
  have cNe3 : ∀ b b2 W, AW w b b2 wl3 awy W → Calls Try.prog 19 #[.pointer (some ⟨b2, 0, none⟩), .int .i64 2] W fun e w' => e = .returned (.tuple #[.int .i64 0, .int .i64 1]) ∧ Below W.heap.size W w' ∧ Below w.heap.size w w' := fun b b2 W h => by
    obtain ⟨P, hP⟩ := h.st.wp
    refine (net_any 2 W hP).mono ?_
    rintro e w' ⟨rfl, hb⟩
    exact ⟨by rw [awy_none], hb, h.blw.trans (hb.mono h.blw.size)⟩
  replace cN := Lib.hid cN
  replace cI0 := Lib.hid cI0
  replace cI1 := Lib.hid cI1
  replace cP := Lib.hid cP
  replace cW := Lib.hid cW
  replace cW1 := Lib.hid cW1
  replace cNet := Lib.hid cNet
  replace cSh := Lib.hid cSh
  replace cIf := Lib.hid cIf
  replace cRt := Lib.hid cRt
  replace cCt := Lib.hid cCt
  replace cNe2 := Lib.hid cNe2
  replace cTb := Lib.hid cTb
  replace cNe3 := Lib.hid cNe3
  replace hT0 := Lib.hid hT0
  clear hs1
  go_enter Try.func6, Try.ntmps6
  go_wp2_with fail
  with_reducible refine cN.out.mono ?_
  rintro e w1 ⟨b, rfl, hS1⟩
  replace hS1 := Lib.hid hS1
  go_wp2_with fail
  with_reducible refine (cI0.out _ _ hS1.out).mono ?_
  rintro e w2 ⟨⟨n2, rfl⟩, hS2⟩
  replace hS2 := Lib.hid hS2
  go_wp2_with fail
  with_reducible refine (cI1.out _ _ hS2.out).mono ?_
  rintro e w3 ⟨⟨n3, rfl⟩, hS3⟩
  replace hS3 := Lib.hid hS3
  go_wp2_with fail
  with_reducible refine (cP.out _ _ hS3.out).mono ?_
  rintro e w4 ⟨⟨n4, rfl⟩, hS4⟩
  replace hS4 := Lib.hid hS4
  go_wp2_with fail
  with_reducible refine (cW.out _ _ hS4.out).mono ?_
  rintro e w5 ⟨b2, rfl, hS5⟩
  replace hS5 := Lib.hid hS5
  go_wp2_with fail
  with_reducible refine (cW1.out _ _ _ hS5.out).mono ?_
  rintro e w6 ⟨rfl, hS6⟩
  replace hS6 := Lib.hid hS6
  go_wp2_with fail
  with_reducible refine (cNet.out _ _ _ hS6.out).mono ?_
  rintro e w7 ⟨rfl, hS7⟩
  replace hS7 := Lib.hid hS7
  go_wp2_with fail
  with_reducible refine (cSh.out _ _ _ hS7.out).mono ?_
  rintro e w8 ⟨rfl, hS8⟩
  replace hS8 := Lib.hid hS8
  go_wp2_with fail
  with_reducible refine (cIf.out _ _ _ hS8.out).mono ?_
  rintro e w9 ⟨rfl, hS9⟩
  replace hS9 := Lib.hid hS9
  go_wp2_with fail
  with_reducible refine (cRt.out _ _ _ hS9.out).mono ?_
  rintro e w10 ⟨rfl, hS10⟩
  replace hS10 := Lib.hid hS10
  go_wp2_with fail
  with_reducible refine (cCt.out _ _ _ hS10.out).mono ?_
  rintro e w11 ⟨rfl, hS11⟩
  replace hS11 := Lib.hid hS11
  go_wp2_with fail
  with_reducible refine (cNe2.out _ _ _ hS11.out).mono ?_
  rintro e w12 ⟨rfl, hS12⟩
  replace hS12 := Lib.hid hS12
  go_wp2_with fail
  with_reducible refine (cTb.out _ _ _ hS12.out).mono ?_
  rintro e w13 ⟨g, c, rfl, hS13, hc13⟩
  replace hS13 := Lib.hid hS13
  replace hc13 := Lib.hid hc13
  go_wp2_with fail
  with_reducible refine (cNe3.out _ _ _ hS13.out).mono ?_
  rintro e w14 ⟨rfl, hb14, hB14⟩
  have hc14 : w14.cell? ⟨g, 4, none⟩ = some (.int .i64 10000) := (hb14.cell (p := ⟨g, 4, none⟩) (World.block_lt_of_cell? _ _ hc13.out)).trans hc13.out
  replace hb14 := Lib.hid hb14
  replace hB14 := Lib.hid hB14
  go_wp2_with fail
  go_ret
  exact ⟨rfl, hB14.out⟩
end Go.Proofs.Ytllhpdohahoelaa
