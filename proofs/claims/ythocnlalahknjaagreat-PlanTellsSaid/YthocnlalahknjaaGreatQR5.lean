/- The contracts of the reference's Cmp and Fit. -/
import Derived.Test.YthocnlalahknjaaGreatQXa
namespace Go.Proofs.YthocnlalahknjaaGreat
open Go.RowKit
set_option linter.unusedVariables false

theorem sign_of {neg : Bool} {len : Nat} {ds : List Int} {N : Int} (hl : ds.length = len) (hd : Digs (dg ds)) (hN : sgB neg (val ds) = N) (hz : (ds = [] → neg = false) ∧ (0 < len → dg ds (len - 1) ≠ 0)) :
    (len = 0 ∧ N = 0) ∨ (0 < len ∧ neg = true ∧ N < 0) ∨ (0 < len ∧ neg = false ∧ 0 < N) := by
  by_cases h0 : len = 0
  · left
    subst h0
    obtain rfl : ds = [] := List.eq_nil_of_length_eq_zero hl
    rw [val_nil] at hN
    refine ⟨rfl, ?_⟩
    rw [← hN]
    cases neg <;> rfl
  · right
    have hne := hz.2 (by omega)
    have hpos : 0 < val ds := by
      apply Int.not_le.1
      intro hle
      have h1 := dv_zero hd (m := len - 1) (n := ds.length) (by show val ds < _; have := pw_pos (len - 1); omega) (len - 1) (Nat.le_refl _) (by omega)
      exact hne h1
    rw [← hN]
    unfold sgB
    cases neg
    · exact .inr ⟨by omega, rfl, hpos⟩
    · refine .inl ⟨by omega, rfl, ?_⟩
      simp
      exact hpos

theorem Box.lt {w : World} {B : Nat} (h : Box w B) : B < w.heap.size := by
  obtain ⟨x, q, l, c, e⟩ := h
  exact (Array.getElem?_eq_some_iff.1 e).1
theorem Box.stays {w w' : World} {B : Nat} (h : Box w B) (hb : Below w.heap.size w w') : Box w' B := h.kept hb h.lt

set_option maxRecDepth 100000 in
set_option maxHeartbeats 4000000 in
theorem cmp_any (v v' : Value) (L : Nat) (N N' : Int) (w : World) (h : IsB w v L N) (h' : IsB w v' L N') (hL : L ≤ 100000) :
    Calls Tryz.prog 59 #[v, v'] w fun e w' => e = .returned (.int .i64 (cmp3 N N')) ∧ Below w.heap.size w w' := by
  have h0 := Lib.hid h
  have h0' := Lib.hid h'
  obtain ⟨na, pa, la, ca, da, rfl, ha, _⟩ := h
  obtain ⟨nb, pb, lb, cb, db, rfl, hb, _⟩ := h'
  have hH := Lib.hid (Hold.made (na := na) (nb := nb) (ca := ca) (cb := cb) ha hb)
  clear ha hb
  obtain ⟨t0, t1, t2, t3⟩ := hH.out.two
  go_enter Tryz.func59, Tryz.ntmps59
  have hHa := Lib.hid (hH.out.kept ((Below.refl _ _).alloc (Nat.le_refl _) (Obj.cells #[Value.bool false, Value.slice none 0 0] 79))).drew
  have hBa : Hid (Box (((w.alloc (Obj.cells #[Value.bool na, Value.slice pa la ca] 79)).alloc (Obj.cells #[Value.bool nb, Value.slice pb lb cb] 79)).alloc (Obj.cells #[Value.bool false, Value.slice none 0 0] 79)).drew (w.heap.size + 1 + 1)) := by
    have := Box.made ((w.alloc (Obj.cells #[Value.bool na, Value.slice pa la ca] 79)).alloc (Obj.cells #[Value.bool nb, Value.slice pb lb cb] 79)) false none 0 0
    show Box _ _
    simp at this
    exact this
  go_upto_region 1 with (fail)
  go_cut [5] (fun s wc => ∃ (b : Nat) (nc : Bool) (pc : Option Addr) (lc cc : Nat), s = .pointer (some ⟨b, 0, none⟩) ∧ wc.cell? ⟨b, 0, none⟩ = some (.bool nc) ∧ wc.cell? ⟨b, 1, none⟩ = some (.slice pc lc cc) ∧
    ((lc = 0 ∧ N + -N' = 0) ∨ (0 < lc ∧ nc = true ∧ N + -N' < 0) ∨ (0 < lc ∧ nc = false ∧ 0 < N + -N')) ∧ lc ≤ L + 1 ∧ Below w.heap.size w wc)
  case first =>
   go_region_with (first
      | (go_at_call 78; (with_reducible refine (turned_any _ L N' _ ?_ ?_).mono ?_); exact (h0'.out.kept hHa.out.bel); omega; rintro e w1 ⟨v1, rfl, hv1, hb1⟩
         have hbox1 := hBa.out.stays hb1; have hH1 := hHa.out.kept hb1; obtain ⟨u0, u1, u2, u3⟩ := hH1.two; have hs1 := hH1.size; have hs1' := Nat.lt_of_succ_lt hs1; obtain ⟨x0, x1, x2, x3, x4, x5, x6, x7⟩ := hbox1.cells; replace hH1 := Lib.hid hH1; replace hbox1 := Lib.hid hbox1; clear hb1)
      | (go_at_call 78; (with_reducible refine (turned_any _ L N' _ ?_ ?_).mono ?_); exact (h0'.out.kept hH.out.drew.bel); omega; rintro e w1 ⟨v1, rfl, hv1, hb1⟩; have hH1 := hH.out.drew.kept hb1; obtain ⟨u0, u1, u2, u3⟩ := hH1.two; have hs1 := hH1.size; have hs1' := Nat.lt_of_succ_lt hs1; replace hH1 := Lib.hid hH1; clear hb1)
      | (go_at_call 29; (with_reducible refine (addB_any _ _ L N (-N') _ ?_ ?_ ?_).mono ?_); exact (h0.out.kept hH1.out.bel); exact hv1; omega; rintro e w2 ⟨v2, rfl, hv2, hb2⟩; obtain ⟨nc, pc, lc, cc, dc, rfl, hv3⟩ := hv2; replace hv3 := Lib.hid hv3
         have hbox2 := hbox1.out.stays hb2; obtain ⟨y0, y1, y2, y3, y4, y5, y6, y7⟩ := hbox2.cells; have hB2 := Lib.hid (hH1.out.kept hb2).bel; clear hb2)
      | (go_at_call 29; (with_reducible refine (addB_any _ _ L N (-N') _ ?_ ?_ ?_).mono ?_); exact (h0.out.kept (hH1.out.bel.alloc hH1.out.bel.size _)); exact (hv1.kept ((Below.refl _ _).alloc (Nat.le_refl _) _)); omega; rintro e w2 ⟨v2, rfl, hv2, hb2⟩; obtain ⟨nc, pc, lc, cc, dc, rfl, hv3⟩ := hv2; replace hv3 := Lib.hid hv3
         have hbox2 := (Box.made w1 false none 0 0).stays hb2; obtain ⟨y0, y1, y2, y3, y4, y5, y6, y7⟩ := hbox2.cells; have hB2 := Lib.hid ((hH1.out.kept ((Below.refl _ _).alloc (Nat.le_refl _) _)).kept hb2).bel; have hz2 : w.heap.size ≤ w1.heap.size := hH1.out.bel.size; clear hb2)
      | (go_at_call 29; (with_reducible refine (addB_any _ _ L N (-N') _ ?_ ?_ ?_).mono ?_); exact (h0.out.kept hH1.out.bel); exact hv1; omega; rintro e w2 ⟨v2, rfl, hv2, hb2⟩; obtain ⟨nc, pc, lc, cc, dc, rfl, hv3⟩ := hv2; replace hv3 := Lib.hid hv3; have hB2 := Lib.hid (hH1.out.kept hb2).bel; clear hb2))
   all_goals
    go_wp2_with fail
    go_meet
    refine ⟨_, nc, pc, lc, cc, rfl, by go_simp, by go_simp, sign_of hv3.out.1.1 hv3.out.1.2.1 hv3.out.2.2.2.2.1 hv3.out.2.2.2.2.2, hv3.out.2.2.2.1, ?_⟩
    first
      | exact hB2.out.alloc hB2.out.size _
      | exact (hB2.out.setCell hz2 _).setCell hz2 _
      | exact (hB2.out.setCell (Nat.le_add_right _ 2) _).setCell (Nat.le_add_right _ 2) _
  case rest =>
    obtain ⟨b, nc, pc, lc, cc, rfl, g0, g1, hs, hl, hB⟩ := hcut
    replace hB := Lib.hid hB
    clear t0 t1 t2 t3
    rcases hs with ⟨rfl, hN⟩ | ⟨h1, rfl, hN⟩ | ⟨h1, rfl, hN⟩
    · have hfin : cmp3 N N' = 0 := by unfold cmp3; rw [if_neg (by omega), if_neg (by omega)]
      replace hfin := Lib.hid hfin
      clear hN
      go_wp2_with fail
      go_ret
      exact ⟨by rw [hfin.out]; rfl, hB.out⟩
    · have hfin : cmp3 N N' = -1 := by unfold cmp3; rw [if_neg (by omega), if_pos (by omega)]
      replace hfin := Lib.hid hfin
      have h2 : ((lc : Int) == 0) = false := by simp; omega
      clear hN
      go_wp2_with fail
      go_ret
      exact ⟨by rw [hfin.out]; rfl, hB.out⟩
    · have hfin : cmp3 N N' = 1 := by unfold cmp3; rw [if_pos (by omega)]
      replace hfin := Lib.hid hfin
      have h2 : ((lc : Int) == 0) = false := by simp; omega
      clear hN
      go_wp2_with fail
      go_ret
      exact ⟨by rw [hfin.out]; rfl, hB.out⟩
end Go.Proofs.YthocnlalahknjaaGreat
