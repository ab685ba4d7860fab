/- The program's Worths in memory; the contracts of has, Net, Short, Table. -/
import Derived.Test.YtllhpdohahoelaaWD
namespace Go.Proofs.Ytllhpdohahoelaa
open Go.RowKit
set_option linter.unusedVariables false

/-- a standing: balances, the net worth and what is short, each with its error -/
abbrev SV := (Nat → Int) × (Int × Int) × (Int × Int)
def stV (cs : List Cur) (f : Nat → Int) : SV := (f, netF cs f cs.length 0 0, shortF cs f cs.length 0 0)
theorem lt12 {c : Nat} (h : c < 12) : c = 0 ∨ c = 1 ∨ c = 2 ∨ c = 3 ∨ c = 4 ∨ c = 5 ∨ c = 6 ∨ c = 7 ∨ c = 8 ∨ c = 9 ∨ c = 10 ∨ c = 11 := by omega
def s12V (v : SV) : Array Value := s12 v.1 v.2.1 v.2.2
/-- a row of standings -/
def MR (w : World) (g : Nat) (V : Nat → SV) (n : Nat) : Prop := ∃ cs, w.heap[g]? = some (.cells cs 93 (0, 0)) ∧ ∀ m, m < n → ∀ j, j < 12 → cs[m * 12 + j]? = (s12V (V m))[j]?
section
variable {w w' : World} {g n : Nat} {V : Nat → SV}
theorem MR.lt (h : MR w g V n) : g < w.heap.size := by obtain ⟨cs, h, _⟩ := h; exact obj_lt h
theorem MR.at (h : MR w g V n) (hb : w'.heap[g]? = w.heap[g]?) : MR w' g V n := by obtain ⟨cs, h1, h2⟩ := h; exact ⟨cs, hb.trans h1, h2⟩
theorem MR.free (h : MR w g V n) (i : Nat) : w.frozen? ⟨g, i, none⟩ = false := by obtain ⟨cs, h1, h2⟩ := h; exact obj_free h1 i
theorem MR.cell (h : MR w g V n) {m j : Nat} (hm : m < n) (hj : j < 12) {v : Value} (hv : (s12V (V m))[j]? = some v) : w.cell? ⟨g, m * 12 + j, none⟩ = some v := by
  obtain ⟨cs, h1, h2⟩ := h; exact obj_cell h1 ((h2 m hm j hj).trans hv)
theorem MR.congr {V' : Nat → SV} (h : MR w g V n) (e : ∀ m, m < n → V m = V' m) : MR w g V' n := by
  obtain ⟨cs, h1, h2⟩ := h; exact ⟨cs, h1, fun m hm j hj => by rw [← e m hm]; exact h2 m hm j hj⟩
theorem MR.cells (h : MR w g V n) {m : Nat} (hm : m < n) : w.cell? ⟨g, m * 12, none⟩ = some (.int .i64 ((V m).1 0)) ∧ w.cell? ⟨g, m * 12 + 1, none⟩ = some (.int .i64 ((V m).1 1)) ∧ w.cell? ⟨g, m * 12 + 2, none⟩ = some (.int .i64 ((V m).1 2)) ∧ w.cell? ⟨g, m * 12 + 3, none⟩ = some (.int .i64 ((V m).1 3)) ∧
    w.cell? ⟨g, m * 12 + 4, none⟩ = some (.int .i64 ((V m).1 4)) ∧ w.cell? ⟨g, m * 12 + 5, none⟩ = some (.int .i64 ((V m).1 5)) ∧ w.cell? ⟨g, m * 12 + 6, none⟩ = some (.int .i64 ((V m).1 6)) ∧ w.cell? ⟨g, m * 12 + 7, none⟩ = some (.int .i64 ((V m).1 7)) ∧
    w.cell? ⟨g, m * 12 + 8, none⟩ = some (.int .i64 (V m).2.1.1) ∧ w.cell? ⟨g, m * 12 + 9, none⟩ = some (.int .i64 (V m).2.1.2) ∧ w.cell? ⟨g, m * 12 + 10, none⟩ = some (.int .i64 (V m).2.2.1) ∧ w.cell? ⟨g, m * 12 + 11, none⟩ = some (.int .i64 (V m).2.2.2) :=
  ⟨h.cell (j := 0) hm (by omega) rfl, h.cell (j := 1) hm (by omega) rfl, h.cell (j := 2) hm (by omega) rfl, h.cell (j := 3) hm (by omega) rfl, h.cell (j := 4) hm (by omega) rfl, h.cell (j := 5) hm (by omega) rfl, h.cell (j := 6) hm (by omega) rfl, h.cell (j := 7) hm (by omega) rfl,
    h.cell (j := 8) hm (by omega) rfl, h.cell (j := 9) hm (by omega) rfl, h.cell (j := 10) hm (by omega) rfl, h.cell (j := 11) hm (by omega) rfl⟩
end
/-- a standing stored -/
def st12 (w : World) (p off : Nat) (v : SV) : World :=
  ((((st8 w p off v.1).setCell ⟨p, off + 8, none⟩ (.int .i64 v.2.1.1)).setCell ⟨p, off + 9, none⟩ (.int .i64 v.2.1.2)).setCell ⟨p, off + 10, none⟩ (.int .i64 v.2.2.1)).setCell ⟨p, off + 11, none⟩ (.int .i64 v.2.2.2)
theorem st12_other (w : World) {p k : Nat} (off : Nat) (v : SV) (h : k ≠ p) : (st12 w p off v).heap[k]? = w.heap[k]? := by
  unfold st12
  rw [obj_other _ h, obj_other _ h, obj_other _ h, obj_other _ h, st8_other _ _ _ h]
theorem below_st12 {B : Nat} {a w : World} (h : Below B a w) {p : Nat} (hp : B ≤ p) (off : Nat) (v : SV) : Below B a (st12 w p off v) :=
  ((((below_st8 h hp off v.1).setCell hp _).setCell hp _).setCell hp _).setCell hp _
theorem Kp.st12 {F : Nat → Prop} {a w : World} (h : Kp F a w) {p : Nat} (hp : F p ∨ a.heap.size ≤ p) (off : Nat) (v : SV) : Kp F a (st12 w p off v) :=
  ((((h.st8 hp off v.1).setCell hp _).setCell hp _).setCell hp _).setCell hp _
def updV (V : Nat → SV) (i : Nat) (v : SV) : Nat → SV := fun a => if a = i then v else V a
theorem updV_same (V : Nat → SV) (i : Nat) (v : SV) : updV V i v i = v := if_pos rfl
theorem updV_other (V : Nat → SV) {i a : Nat} (v : SV) (h : a ≠ i) : updV V i v a = V a := if_neg h
theorem MR.set {w : World} {g n m : Nat} {V : Nat → SV} (h : MR w g V n) (hm : m < n) (v : SV) : MR (st12 w g (m * 12) v) g (updV V m v) n := by
  obtain ⟨cs, h1, h2⟩ := h
  have a8 := st8_at h1 (m * 12) v.1
  have a9 := obj_set a8 (m * 12 + 8) (.int .i64 v.2.1.1)
  have a10 := obj_set a9 (m * 12 + 9) (.int .i64 v.2.1.2)
  have a11 := obj_set a10 (m * 12 + 10) (.int .i64 v.2.2.1)
  have a12 := obj_set a11 (m * 12 + 11) (.int .i64 v.2.2.2)
  refine ⟨_, a12, fun k hk j hj => ?_⟩
  have hz := (Array.getElem?_eq_some_iff.1 ((h2 m hm 11 (by omega)).trans (show (s12V (V m))[11]? = some (.int .i64 (V m).2.2.2) from rfl))).1
  by_cases e : k = m
  · subst e
    rw [updV_same]
    rcases lt12 hj with rfl | rfl | rfl | rfl | rfl | rfl | rfl | rfl | rfl | rfl | rfl | rfl <;> simp [Array.getElem?_setIfInBounds, s12V, s12] <;> omega
  · rw [updV_other _ _ e, ← h2 k hk j hj]
    have hne : ∀ i, i < 12 → m * 12 + i ≠ k * 12 + j := fun i hi => by omega
    have hne0 : m * 12 ≠ k * 12 + j := hne 0 (by omega)
    rw [Array.getElem?_setIfInBounds_ne (hne 11 (by omega)), Array.getElem?_setIfInBounds_ne (hne 10 (by omega)), Array.getElem?_setIfInBounds_ne (hne 9 (by omega)), Array.getElem?_setIfInBounds_ne (hne 8 (by omega)),
      Array.getElem?_setIfInBounds_ne (hne 7 (by omega)), Array.getElem?_setIfInBounds_ne (hne 6 (by omega)), Array.getElem?_setIfInBounds_ne (hne 5 (by omega)), Array.getElem?_setIfInBounds_ne (hne 4 (by omega)),
      Array.getElem?_setIfInBounds_ne (hne 3 (by omega)), Array.getElem?_setIfInBounds_ne (hne 2 (by omega)), Array.getElem?_setIfInBounds_ne (hne 1 (by omega)), Array.getElem?_setIfInBounds_ne hne0]
theorem MR.set_other {w : World} {g n p : Nat} {V : Nat → SV} (h : MR w g V n) (off : Nat) (v : SV) (e : g ≠ p) : MR (st12 w p off v) g V n := h.at (st12_other _ _ _ e)

theorem Tab.at {w w' : World} {g len : Nat} {cs : List Cur} (h : Tab w (some ⟨g, 0, none⟩) len cs) (hg : g < w.heap.size) (hs : w.heap.size ≤ w'.heap.size) (hb : w'.heap[g]? = w.heap[g]?) : Tab w' (some ⟨g, 0, none⟩) len cs := by
  obtain ⟨h1, h2, h3, h4⟩ := h
  refine ⟨h1, h2, h3, h4.imp id ?_⟩
  rintro ⟨b, off, e, hlt, hc⟩
  injection e with e
  injection e with e1 e2
  subst e1; subst e2
  refine ⟨g, 0, rfl, Nat.lt_of_lt_of_le hlt hs, fun i hi => ?_⟩
  obtain ⟨c0, c1, c2⟩ := hc i hi
  exact ⟨(World.cell?_of_block (w := w) hb).trans c0, (World.cell?_of_block (w := w) hb).trans c1, (World.cell?_of_block (w := w) hb).trans c2⟩

/-- what Worths hold: the table, and of each member the balances as they were taken -/
structure WM where
  cs : List Cur
  nm : Nat
  S : Nat → Nat → Int
def WM.has (x : WM) (m : Int) : Bool := decide (0 ≤ m) && decide (m < x.nm)
def WM.net (x : WM) (m : Int) : Int × Int := if x.has m then netF x.cs (x.S m.toNat) x.cs.length 0 0 else (0, 1)
def WM.short (x : WM) (m : Int) : Int × Int := if x.has m then shortF x.cs (x.S m.toNat) x.cs.length 0 0 else (0, 1)
theorem WM.has_nat {x : WM} {m : Int} (h : x.has m = true) : ∃ i : Nat, m = i ∧ i < x.nm := by
  unfold WM.has at h; simp at h; exact ⟨m.toNat, by omega, by omega⟩

def wArr (x : WM) (lb gT cT gM cM : Nat) : Array Value := #[.slice (some ⟨gT, 0, none⟩) x.cs.length cT, .pointer (some ⟨lb, 0, none⟩), .slice (some ⟨gM, 0, none⟩) x.nm cM]
/-- Worths in memory, by their blocks -/
structure WPv (P : Nat → Prop) (w : World) (b lb : Nat) (x : WM) (V : Nat → SV) (gT cT gM cM : Nat) : Prop where
  obj : w.heap[b]? = some (.cells (wArr x lb gT cT gM cM) 77 (0, 0))
  tab : Tab w (some ⟨gT, 0, none⟩) x.cs.length x.cs
  tlt : gT < w.heap.size
  rows : MR w gM V x.nm
  nm : x.nm ≤ 16
  chk : chkT x.cs = 0
  own : P b ∧ P gT ∧ P gM
  in64 : ∀ m c, In64 (x.S m c)
  apart : gT ≠ gM
def WP (P : Nat → Prop) (w : World) (b lb : Nat) (x : WM) : Prop := ∃ gT cT gM cM, WPv P w b lb x (fun m => stV x.cs (x.S m)) gT cT gM cM
section
variable {P : Nat → Prop} {w w' : World} {b lb gT cT gM cM : Nat} {x : WM} {V : Nat → SV}
theorem WPv.kept (h : WPv P w b lb x V gT cT gM cM) (hs : w.heap.size ≤ w'.heap.size) (hb : ∀ j, j < w.heap.size → P j → w'.heap[j]? = w.heap[j]?) : WPv P w' b lb x V gT cT gM cM :=
  ⟨(hb _ (obj_lt h.obj) h.own.1).trans h.obj, h.tab.at h.tlt hs (hb _ h.tlt h.own.2.1), Nat.lt_of_lt_of_le h.tlt hs, h.rows.at (hb _ h.rows.lt h.own.2.2), h.nm, h.chk, h.own, h.in64, h.apart⟩
theorem WPv.below (h : WPv P w b lb x V gT cT gM cM) (hb : Below w.heap.size w w') : WPv P w' b lb x V gT cT gM cM := h.kept hb.size fun j hj _ => hb.block j hj
theorem WP.live (b lb : Nat) (x : WM) : Live fun P w => WP P w b lb x := by
  refine ⟨?_, ?_⟩
  · rintro P w w' F ⟨gT, cT, gM, cM, h⟩ hK hF
    exact ⟨gT, cT, gM, cM, h.kept hK.size fun j hj hp => hK.block j hj (hF j hj hp)⟩
  · rintro P Q w ⟨gT, cT, gM, cM, h⟩ hq
    exact ⟨gT, cT, gM, cM, h.obj, h.tab, h.tlt, h.rows, h.nm, h.chk, ⟨hq _ (obj_lt h.obj) h.own.1, hq _ h.tlt h.own.2.1, hq _ h.rows.lt h.own.2.2⟩, h.in64, h.apart⟩
theorem WPv.c0 (h : WPv P w b lb x V gT cT gM cM) : w.cell? ⟨b, 0, none⟩ = some (.slice (some ⟨gT, 0, none⟩) x.cs.length cT) := obj_cell h.obj rfl
theorem WPv.c1 (h : WPv P w b lb x V gT cT gM cM) : w.cell? ⟨b, 1, none⟩ = some (.pointer (some ⟨lb, 0, none⟩)) := obj_cell h.obj rfl
theorem WPv.c2 (h : WPv P w b lb x V gT cT gM cM) : w.cell? ⟨b, 2, none⟩ = some (.slice (some ⟨gM, 0, none⟩) x.nm cM) := obj_cell h.obj rfl
theorem WPv.n8 (h : WPv P w b lb x V gT cT gM cM) : x.cs.length ≤ 8 := (chk_ok h.chk).2.1
theorem WPv.oob (h : WPv P w b lb x V gT cT gM cM) : ∀ i, i < x.cs.length → oobB (cAt x.cs i) = false := (chk_ok h.chk).2.2.1

set_option maxHeartbeats 1000000 in
theorem whas_any (m : Int) (w : World) (h : WPv P w b lb x V gT cT gM cM) :
    Calls Try.prog 39 #[.pointer (some ⟨b, 0, none⟩), .int .i64 m] w fun e w' => e = .returned (.bool (x.has m)) ∧ w = w' := by
  have c2 := h.c2
  clear h
  by_cases h1 : 0 ≤ m
  · go_enter Try.func39, Try.ntmps39
    go_wp2_with fail
    go_ret
    exact ⟨retL_bool (by unfold WM.has; simp [h1]), rfl⟩
  · go_enter Try.func39, Try.ntmps39
    go_wp2_with fail
    go_ret
    exact ⟨retL_bool (by unfold WM.has; simp; intros; omega), rfl⟩

set_option maxHeartbeats 1000000 in
theorem net_any (m : Int) (w : World) (h0 : WP P w b lb x) :
    Calls Try.prog 19 #[.pointer (some ⟨b, 0, none⟩), .int .i64 m] w fun e w' => e = .returned (.tuple #[.int .i64 (x.net m).1, .int .i64 (x.net m).2]) ∧ Below w.heap.size w w' := by
  obtain ⟨gT, cT, gM, cM, h⟩ := h0
  have hH := whas_any m w h
  have c2 := h.c2
  unfold WM.net
  cases hh : x.has m with
  | false =>
    rw [hh] at hH
    rw [if_neg (by simp)]
    replace hH := Lib.hid hH
    go_enter Try.func19, Try.ntmps19
    go_wp2_with (first | (go_at_call 39; (with_reducible refine hH.out.mono ?_); rintro e w1 ⟨rfl, rfl⟩))
    go_ret2
    exact ⟨rfl, Below.refl _ _⟩
  | true =>
    rw [hh] at hH
    rw [if_pos rfl]
    obtain ⟨i, rfl, hi⟩ := WM.has_nat hh
    obtain ⟨y0, y1, y2, y3, y4, y5, y6, y7, y8, y9, y10, y11⟩ := h.rows.cells hi
    have hz : (i : Int) < (x.nm : Int) := by omega
    have e : ((i : Int)).toNat = i := by omega
    rw [e]
    unfold stV at y8 y9
    dsimp only at y8 y9
    generalize netF x.cs (x.S i) x.cs.length 0 0 = n at *
    have hT := fun w => told_any n.1 n.2 w
    clear y0 y1 y2 y3 y4 y5 y6 y7 y10 y11 e
    replace hH := Lib.hid hH
    replace hT := Lib.hid hT
    replace h := Lib.hid h
    go_enter Try.func19, Try.ntmps19
    go_wp2_with (first | (go_at_call 39; (with_reducible refine hH.out.mono ?_); rintro e w1 ⟨rfl, rfl⟩) | (go_at_call 40; (with_reducible refine (hT.out _).mono ?_); rintro e w1 ⟨rfl, hb1⟩; replace hb1 := Lib.hid hb1))
    go_ret2
    exact ⟨rfl, hb1.out⟩
set_option maxHeartbeats 1000000 in
theorem short_any (m : Int) (w : World) (h0 : WP P w b lb x) :
    Calls Try.prog 20 #[.pointer (some ⟨b, 0, none⟩), .int .i64 m] w fun e w' => e = .returned (.tuple #[.int .i64 (x.short m).1, .int .i64 (x.short m).2]) ∧ Below w.heap.size w w' := by
  obtain ⟨gT, cT, gM, cM, h⟩ := h0
  have hH := whas_any m w h
  have c2 := h.c2
  unfold WM.short
  cases hh : x.has m with
  | false =>
    rw [hh] at hH
    rw [if_neg (by simp)]
    replace hH := Lib.hid hH
    go_enter Try.func20, Try.ntmps20
    go_wp2_with (first | (go_at_call 39; (with_reducible refine hH.out.mono ?_); rintro e w1 ⟨rfl, rfl⟩))
    go_ret2
    exact ⟨rfl, Below.refl _ _⟩
  | true =>
    rw [hh] at hH
    rw [if_pos rfl]
    obtain ⟨i, rfl, hi⟩ := WM.has_nat hh
    obtain ⟨y0, y1, y2, y3, y4, y5, y6, y7, y8, y9, y10, y11⟩ := h.rows.cells hi
    have hz : (i : Int) < (x.nm : Int) := by omega
    have e : ((i : Int)).toNat = i := by omega
    rw [e]
    unfold stV at y10 y11
    dsimp only at y10 y11
    generalize shortF x.cs (x.S i) x.cs.length 0 0 = n at *
    have hT := fun w => told_any n.1 n.2 w
    clear y0 y1 y2 y3 y4 y5 y6 y7 y8 y9 e
    replace hH := Lib.hid hH
    replace hT := Lib.hid hT
    replace h := Lib.hid h
    go_enter Try.func20, Try.ntmps20
    go_wp2_with (first | (go_at_call 39; (with_reducible refine hH.out.mono ?_); rintro e w1 ⟨rfl, rfl⟩) | (go_at_call 40; (with_reducible refine (hT.out _).mono ?_); rintro e w1 ⟨rfl, hb1⟩; replace hb1 := Lib.hid hb1))
    go_ret2
    exact ⟨rfl, hb1.out⟩
/-- the table, a copy -/
def TabP (cs : List Cur) (w : World) (e : Ending) (w' : World) : Prop := ∃ g c, e = .returned (.slice (some ⟨g, 0, none⟩) cs.length c) ∧ Tab w' (some ⟨g, 0, none⟩) cs.length cs ∧ w.heap.size ≤ g ∧ g < w'.heap.size ∧ Below w.heap.size w w'
theorem Cloned.tab {cs : List Cur} {w w' : World} {e : Ending} (h : Cloned cs cs.length w e w') (hz : ∀ i, CurOk (cAt cs i)) (hl : cs.length ≤ 1000) : TabP cs w e w' := by
  obtain ⟨g, c, rfl, hown, hb⟩ := h
  have hg := hown.lt g rfl
  exact ⟨g, c, rfl, Tab.of_own hown rfl hz (by omega), hg.1, hg.2, hb⟩
set_option maxHeartbeats 1000000 in
theorem table_any (w : World) (h0 : WP P w b lb x) : Calls Try.prog 18 #[.pointer (some ⟨b, 0, none⟩)] w (TabP x.cs w) := by
  obtain ⟨gT, cT, gM, cM, h⟩ := h0
  have c0 := h.c0
  have hC := (clone_any gT 0 x.cs.length cT x.cs w h.tab (chk_ok h.chk).1 (by have := h.n8; omega)).mono fun e w' hc => Cloned.tab hc h.tab.2.1 (by have := h.n8; omega)
  clear h
  replace hC := Lib.hid hC
  go_enter Try.func18, Try.ntmps18
  go_wp2_with (first | (go_at_call 32; (with_reducible refine hC.out.mono ?_); rintro e w1 ⟨g, c, rfl, hT, hg, hg2, hb1⟩; replace hT := Lib.hid hT; replace hb1 := Lib.hid hb1))
  go_ret
  exact ⟨g, c, rfl, hT.out, hg, hg2, hb1.out⟩
end
end Go.Proofs.Ytllhpdohahoelaa
