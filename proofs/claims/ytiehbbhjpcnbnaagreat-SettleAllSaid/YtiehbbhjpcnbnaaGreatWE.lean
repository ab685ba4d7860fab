/- The program's Worths in memory; the contracts of has, Net, Short, Table.
  The contracts of worth's Moved and reckon.
  The contracts of worth's Moved and reckon, over Worths.
  The contracts of worth's Rate, Cut and New.
  The contract of worth's New. -/
import Derived.Test.YtiehbbhjpcnbnaaGreatWA
namespace Go.Proofs.YtiehbbhjpcnbnaaGreat
open Go.RowKit
set_option linter.unusedVariables false

/-- a standing: balances, the net worth and what is short, each with its error -/
abbrev SV := (Nat → Int) × (Int × Int) × (Int × Int)
def stV (cs : List Cur) (f : Nat → Int) : SV := (f, netF cs f cs.length 0 0, shortF cs f cs.length 0 0)
theorem lt12 {c : Nat} (h : c < 12) : c = 0 ∨ c = 1 ∨ c = 2 ∨ c = 3 ∨ c = 4 ∨ c = 5 ∨ c = 6 ∨ c = 7 ∨ c = 8 ∨ c = 9 ∨ c = 10 ∨ c = 11 := by omega
def s12V (v : SV) : Array Value := s12 v.1 v.2.1 v.2.2
/-- a row of standings -/
def MR (w : World) (g : Nat) (V : Nat → SV) (n : Nat) : Prop := ∃ cs, w.heap[g]? = some (.cells cs 137 (0, 0)) ∧ ∀ m, m < n → ∀ j, j < 12 → cs[m * 12 + j]? = (s12V (V m))[j]?
section
variable {w w' : World} {g n : Nat} {V : Nat → SV}
theorem MR.lt (h : MR w g V n) : g < w.heap.size := by obtain ⟨cs, h, _⟩ := h; exact obj_lt h
theorem MR.at (h : MR w g V n) (hb : w'.heap[g]? = w.heap[g]?) : MR w' g V n := by obtain ⟨cs, h1, h2⟩ := h; exact ⟨cs, hb.trans h1, h2⟩
theorem MR.free (h : MR w g V n) (i : Nat) : w.frozen? ⟨g, i, none⟩ = false := by obtain ⟨cs, h1, h2⟩ := h; exact obj_free h1 i
theorem MR.cell (h : MR w g V n) {m j : Nat} (hm : m < n) (hj : j < 12) {v : Value} (hv : (s12V (V m))[j]? = some v) : w.cell? ⟨g, m * 12 + j, none⟩ = some v := by
  obtain ⟨cs, h1, h2⟩ := h; exact obj_cell h1 ((h2 m hm j hj).trans hv)
theorem MR.congr {V' : Nat → SV} (h : MR w g V n) (e : ∀ m, m < n → V m = V' m) : MR w g V' n := by
  obtain ⟨cs, h1, h2⟩ := h; exact ⟨cs, h1, fun m hm j hj => by rw [← e m hm]; exact h2 m hm j hj⟩
theorem MR.cells (h : MR w g V n) {m : Nat} (hm : m < n) : w.cell? ⟨g, m * 12, none⟩ = some (.int .i64 ((V m).1 0)) ∧ w.cell? ⟨g, m * 12 + 1, none⟩ = some (.int .i64 ((V m).1 1)) ∧ w.cell? ⟨g, m * 12 + 2, none⟩ = some (.int .i64 ((V m).1 2)) ∧ w.cell? ⟨g, m * 12 + 3, none⟩ = some (.int .i64 ((V m).1 3)) ∧
    w.cell? ⟨g, m * 12 + 4, none⟩ = some (.int .i64 ((V m).1 4)) ∧ w.cell? ⟨g, m * 12 + 5, none⟩ = some (.int .i64 ((V m).1 5)) ∧ w.cell? ⟨g, m * 12 + 6, none⟩ = some (.int .i64 ((V m).1 6)) ∧ w.cell? ⟨g, m * 12 + 7, none⟩ = some (.int .i64 ((V m).1 7)) ∧
    w.cell? ⟨g, m * 12 + 8, none⟩ = some (.int .i64 (V m).2.1.1) ∧ w.cell? ⟨g, m * 12 + 9, none⟩ = some (.int .i64 (V m).2.1.2) ∧ w.cell? ⟨g, m * 12 + 10, none⟩ = some (.int .i64 (V m).2.2.1) ∧ w.cell? ⟨g, m * 12 + 11, none⟩ = some (.int .i64 (V m).2.2.2) :=
  ⟨h.cell (j := 0) hm (by omega) rfl, h.cell (j := 1) hm (by omega) rfl, h.cell (j := 2) hm (by omega) rfl, h.cell (j := 3) hm (by omega) rfl, h.cell (j := 4) hm (by omega) rfl, h.cell (j := 5) hm (by omega) rfl, h.cell (j := 6) hm (by omega) rfl, h.cell (j := 7) hm (by omega) rfl,
    h.cell (j := 8) hm (by omega) rfl, h.cell (j := 9) hm (by omega) rfl, h.cell (j := 10) hm (by omega) rfl, h.cell (j := 11) hm (by omega) rfl⟩
end
/-- a standing stored -/
def st12 (w : World) (p off : Nat) (v : SV) : World :=
  ((((st8 w p off v.1).setCell ⟨p, off + 8, none⟩ (.int .i64 v.2.1.1)).setCell ⟨p, off + 9, none⟩ (.int .i64 v.2.1.2)).setCell ⟨p, off + 10, none⟩ (.int .i64 v.2.2.1)).setCell ⟨p, off + 11, none⟩ (.int .i64 v.2.2.2)
theorem st12_other (w : World) {p k : Nat} (off : Nat) (v : SV) (h : k ≠ p) : (st12 w p off v).heap[k]? = w.heap[k]? := by
  unfold st12
  rw [obj_other _ h, obj_other _ h, obj_other _ h, obj_other _ h, st8_other _ _ _ h]
theorem below_st12 {B : Nat} {a w : World} (h : Below B a w) {p : Nat} (hp : B ≤ p) (off : Nat) (v : SV) : Below B a (st12 w p off v) :=
  ((((below_st8 h hp off v.1).setCell hp _).setCell hp _).setCell hp _).setCell hp _
theorem Kp.st12 {F : Nat → Prop} {a w : World} (h : Kp F a w) {p : Nat} (hp : F p ∨ a.heap.size ≤ p) (off : Nat) (v : SV) : Kp F a (st12 w p off v) :=
  ((((h.st8 hp off v.1).setCell hp _).setCell hp _).setCell hp _).setCell hp _
def updV (V : Nat → SV) (i : Nat) (v : SV) : Nat → SV := fun a => if a = i then v else V a
theorem updV_same (V : Nat → SV) (i : Nat) (v : SV) : updV V i v i = v := if_pos rfl
theorem updV_other (V : Nat → SV) {i a : Nat} (v : SV) (h : a ≠ i) : updV V i v a = V a := if_neg h
theorem MR.set {w : World} {g n m : Nat} {V : Nat → SV} (h : MR w g V n) (hm : m < n) (v : SV) : MR (st12 w g (m * 12) v) g (updV V m v) n := by
  obtain ⟨cs, h1, h2⟩ := h
  have a8 := st8_at h1 (m * 12) v.1
  have a9 := obj_set a8 (m * 12 + 8) (.int .i64 v.2.1.1)
  have a10 := obj_set a9 (m * 12 + 9) (.int .i64 v.2.1.2)
  have a11 := obj_set a10 (m * 12 + 10) (.int .i64 v.2.2.1)
  have a12 := obj_set a11 (m * 12 + 11) (.int .i64 v.2.2.2)
  refine ⟨_, a12, fun k hk j hj => ?_⟩
  have hz := (Array.getElem?_eq_some_iff.1 ((h2 m hm 11 (by omega)).trans (show (s12V (V m))[11]? = some (.int .i64 (V m).2.2.2) from rfl))).1
  by_cases e : k = m
  · subst e
    rw [updV_same]
    rcases lt12 hj with rfl | rfl | rfl | rfl | rfl | rfl | rfl | rfl | rfl | rfl | rfl | rfl <;> simp [Array.getElem?_setIfInBounds, s12V, s12] <;> omega
  · rw [updV_other _ _ e, ← h2 k hk j hj]
    have hne : ∀ i, i < 12 → m * 12 + i ≠ k * 12 + j := fun i hi => by omega
    have hne0 : m * 12 ≠ k * 12 + j := hne 0 (by omega)
    rw [Array.getElem?_setIfInBounds_ne (hne 11 (by omega)), Array.getElem?_setIfInBounds_ne (hne 10 (by omega)), Array.getElem?_setIfInBounds_ne (hne 9 (by omega)), Array.getElem?_setIfInBounds_ne (hne 8 (by omega)),
      Array.getElem?_setIfInBounds_ne (hne 7 (by omega)), Array.getElem?_setIfInBounds_ne (hne 6 (by omega)), Array.getElem?_setIfInBounds_ne (hne 5 (by omega)), Array.getElem?_setIfInBounds_ne (hne 4 (by omega)),
      Array.getElem?_setIfInBounds_ne (hne 3 (by omega)), Array.getElem?_setIfInBounds_ne (hne 2 (by omega)), Array.getElem?_setIfInBounds_ne (hne 1 (by omega)), Array.getElem?_setIfInBounds_ne hne0]
theorem MR.set_other {w : World} {g n p : Nat} {V : Nat → SV} (h : MR w g V n) (off : Nat) (v : SV) (e : g ≠ p) : MR (st12 w p off v) g V n := h.at (st12_other _ _ _ e)

theorem Tab.at {w w' : World} {g len : Nat} {cs : List Cur} (h : Tab w (some ⟨g, 0, none⟩) len cs) (hg : g < w.heap.size) (hs : w.heap.size ≤ w'.heap.size) (hb : w'.heap[g]? = w.heap[g]?) : Tab w' (some ⟨g, 0, none⟩) len cs := by
  obtain ⟨h1, h2, h3, h4⟩ := h
  refine ⟨h1, h2, h3, h4.imp id ?_⟩
  rintro ⟨b, off, e, hlt, hc⟩
  injection e with e
  injection e with e1 e2
  subst e1; subst e2
  refine ⟨g, 0, rfl, Nat.lt_of_lt_of_le hlt hs, fun i hi => ?_⟩
  obtain ⟨c0, c1, c2⟩ := hc i hi
  exact ⟨(World.cell?_of_block (w := w) hb).trans c0, (World.cell?_of_block (w := w) hb).trans c1, (World.cell?_of_block (w := w) hb).trans c2⟩

/-- what Worths hold: the table, and of each member the balances as they were taken -/
structure WM where
  cs : List Cur
  nm : Nat
  S : Nat → Nat → Int
def WM.has (x : WM) (m : Int) : Bool := decide (0 ≤ m) && decide (m < x.nm)
def WM.net (x : WM) (m : Int) : Int × Int := if x.has m then netF x.cs (x.S m.toNat) x.cs.length 0 0 else (0, 1)
def WM.short (x : WM) (m : Int) : Int × Int := if x.has m then shortF x.cs (x.S m.toNat) x.cs.length 0 0 else (0, 1)
theorem WM.has_nat {x : WM} {m : Int} (h : x.has m = true) : ∃ i : Nat, m = i ∧ i < x.nm := by
  unfold WM.has at h; simp at h; exact ⟨m.toNat, by omega, by omega⟩

def wArr (x : WM) (lb gT cT gM cM : Nat) : Array Value := #[.slice (some ⟨gT, 0, none⟩) x.cs.length cT, .pointer (some ⟨lb, 0, none⟩), .slice (some ⟨gM, 0, none⟩) x.nm cM]
/-- Worths in memory, by their blocks -/
structure WPv (P : Nat → Prop) (w : World) (b lb : Nat) (x : WM) (V : Nat → SV) (gT cT gM cM : Nat) : Prop where
  obj : w.heap[b]? = some (.cells (wArr x lb gT cT gM cM) 141 (0, 0))
  tab : Tab w (some ⟨gT, 0, none⟩) x.cs.length x.cs
  tlt : gT < w.heap.size
  rows : MR w gM V x.nm
  nm : x.nm ≤ 16
  chk : chkT x.cs = 0
  own : P b ∧ P gT ∧ P gM
  in64 : ∀ m c, In64 (x.S m c)
  apart : gT ≠ gM
def WP (P : Nat → Prop) (w : World) (b lb : Nat) (x : WM) : Prop := ∃ gT cT gM cM, WPv P w b lb x (fun m => stV x.cs (x.S m)) gT cT gM cM
section
variable {P : Nat → Prop} {w w' : World} {b lb gT cT gM cM : Nat} {x : WM} {V : Nat → SV}
theorem WPv.kept (h : WPv P w b lb x V gT cT gM cM) (hs : w.heap.size ≤ w'.heap.size) (hb : ∀ j, j < w.heap.size → P j → w'.heap[j]? = w.heap[j]?) : WPv P w' b lb x V gT cT gM cM :=
  ⟨(hb _ (obj_lt h.obj) h.own.1).trans h.obj, h.tab.at h.tlt hs (hb _ h.tlt h.own.2.1), Nat.lt_of_lt_of_le h.tlt hs, h.rows.at (hb _ h.rows.lt h.own.2.2), h.nm, h.chk, h.own, h.in64, h.apart⟩
theorem WPv.below (h : WPv P w b lb x V gT cT gM cM) (hb : Below w.heap.size w w') : WPv P w' b lb x V gT cT gM cM := h.kept hb.size fun j hj _ => hb.block j hj
theorem WP.live (b lb : Nat) (x : WM) : Live fun P w => WP P w b lb x := by
  refine ⟨?_, ?_⟩
  · rintro P w w' F ⟨gT, cT, gM, cM, h⟩ hK hF
    exact ⟨gT, cT, gM, cM, h.kept hK.size fun j hj hp => hK.block j hj (hF j hj hp)⟩
  · rintro P Q w ⟨gT, cT, gM, cM, h⟩ hq
    exact ⟨gT, cT, gM, cM, h.obj, h.tab, h.tlt, h.rows, h.nm, h.chk, ⟨hq _ (obj_lt h.obj) h.own.1, hq _ h.tlt h.own.2.1, hq _ h.rows.lt h.own.2.2⟩, h.in64, h.apart⟩
theorem WPv.c0 (h : WPv P w b lb x V gT cT gM cM) : w.cell? ⟨b, 0, none⟩ = some (.slice (some ⟨gT, 0, none⟩) x.cs.length cT) := obj_cell h.obj rfl
theorem WPv.c1 (h : WPv P w b lb x V gT cT gM cM) : w.cell? ⟨b, 1, none⟩ = some (.pointer (some ⟨lb, 0, none⟩)) := obj_cell h.obj rfl
theorem WPv.c2 (h : WPv P w b lb x V gT cT gM cM) : w.cell? ⟨b, 2, none⟩ = some (.slice (some ⟨gM, 0, none⟩) x.nm cM) := obj_cell h.obj rfl
theorem WPv.n8 (h : WPv P w b lb x V gT cT gM cM) : x.cs.length ≤ 8 := (chk_ok h.chk).2.1
theorem WPv.oob (h : WPv P w b lb x V gT cT gM cM) : ∀ i, i < x.cs.length → oobB (cAt x.cs i) = false := (chk_ok h.chk).2.2.1

set_option maxHeartbeats 1000000 in
theorem whas_any (m : Int) (w : World) (h : WPv P w b lb x V gT cT gM cM) :
    Calls Tryz.prog 68 #[.pointer (some ⟨b, 0, none⟩), .int .i64 m] w fun e w' => e = .returned (.bool (x.has m)) ∧ w = w' := by
  have c2 := h.c2
  clear h
  by_cases h1 : 0 ≤ m
  · go_enter Tryz.func68, Tryz.ntmps68
    go_wp2_with fail
    go_ret
    exact ⟨retL_bool (by unfold WM.has; simp [h1]), rfl⟩
  · go_enter Tryz.func68, Tryz.ntmps68
    go_wp2_with fail
    go_ret
    exact ⟨retL_bool (by unfold WM.has; simp; intros; omega), rfl⟩

/-- the table, a copy -/
def TabP (cs : List Cur) (w : World) (e : Ending) (w' : World) : Prop := ∃ g c, e = .returned (.slice (some ⟨g, 0, none⟩) cs.length c) ∧ Tab w' (some ⟨g, 0, none⟩) cs.length cs ∧ w.heap.size ≤ g ∧ g < w'.heap.size ∧ Below w.heap.size w w'
theorem Cloned.tab {cs : List Cur} {w w' : World} {e : Ending} (h : Cloned cs cs.length w e w') (hz : ∀ i, CurOk (cAt cs i)) (hl : cs.length ≤ 1000) : TabP cs w e w' := by
  obtain ⟨g, c, rfl, hown, hb⟩ := h
  have hg := hown.lt g rfl
  exact ⟨g, c, rfl, Tab.of_own hown rfl hz (by omega), hg.1, hg.2, hb⟩
end
end Go.Proofs.YtiehbbhjpcnbnaaGreat
namespace Go.Proofs.YtiehbbhjpcnbnaaGreat
open Go.RowKit
set_option linter.unusedVariables false

theorem obj_ne {w : World} {x y : Nat} {cs ds : Array Value} {t u : TypeId} {fr fs : Nat × Nat} (hx : w.heap[x]? = some (.cells cs t fr)) (hy : w.heap[y]? = some (.cells ds u fs)) (h : t ≠ u) : x ≠ y := by
  rintro rfl
  rw [hx] at hy
  injection hy with hy
  injection hy with _ e _
  exact h e
/-- a member's balances, by the ledger -/
def LM.row (l : LM) (m : Nat) : Nat → Int := fun c => l.get (m : Nat) (c : Nat)

set_option maxHeartbeats 4000000 in
set_option maxRecDepth 100000 in
theorem moved_v {PF P : Nat → Prop} {b lb gT cT gM cM gB cB : Nat} {x : WM} {V : Nat → SV} {l : LM} (i : Nat) (w : World) (hL : PLv PF w lb l gB cB) (h : WPv P w b lb x V gT cT gM cM) (hd : ∀ j, PF j → ¬ P j) (hi : i < x.nm) (hin : ∀ c, In64 (l.row i c)) :
    Calls Tryz.prog 45 #[.pointer (some ⟨b, 0, none⟩), .int .i64 (i : Int)] w fun e w' => e = .returned (.tuple #[]) ∧ MR w' gM (updV V i (stV x.cs (l.row i))) x.nm ∧ Kp (fun j => j = gM) w w' := by
  have hH := whas_any (i : Int) w h
  rw [show x.has (i : Int) = true by unfold WM.has; simp; omega] at hH
  have hz : (i : Int) < (x.nm : Int) := by omega
  have c0 := h.c0
  have c1 := h.c1
  have c2 := h.c2
  have hbl := obj_lt h.obj
  have hbM : b ≠ gM := by obtain ⟨ds, hy, _⟩ := h.rows; exact obj_ne h.obj hy (by decide)
  have hlM : lb ≠ gM := fun e => hd _ hL.own.1 (e ▸ h.own.2.2)
  have hBM : gB ≠ gM := fun e => hd _ hL.own.2 (e ▸ h.own.2.2)
  have hll := obj_lt hL.obj
  have hBl := hL.bal.lt
  replace hH := Lib.hid hH
  replace hL := Lib.hid hL
  replace h := Lib.hid h
  replace hd := Lib.hid hd
  replace hin := Lib.hid hin
  go_enter Tryz.func45, Tryz.ntmps45
  go_upto_region 1 with (first | (go_at_call 68; (with_reducible refine hH.out.mono ?_); rintro e w1 ⟨rfl, rfl⟩))
  refine wp_region_closed (by kernel_rfl) (fun L az wz => ∃ v7 v8 v9 v10 v11 v12 v13 v14 v15 v16 v17 v18 v19 v20 v21 v22 v23 : Value, az = ({ tmps := (.pointer (some ⟨b, 0, none⟩) :: .int .i64 (i : Int) :: undef :: undef :: .pointer (some ⟨b, 0, none⟩) :: .int .i64 (i : Int) :: .bool true :: v7 :: v8 :: v9 :: v10 :: v11 :: v12 :: v13 :: v14 :: v15 :: v16 :: v17 :: v18 :: v19 :: v20 :: v21 :: v22 :: v23 :: []).toArray, defers := [] } : Act) ∧ (∃ V2 : Nat → SV, MR wz gM V2 x.nm ∧ (L 17 = true → V2 = updV V i (stV x.cs (l.row i))) ∧ (L 17 = false → V2 = V)) ∧ (Kp (fun j => j = gM) w wz) ∧ (L 0 = true → v7 = .pointer (some ⟨b, 0, none⟩)) ∧ (L 1 = true → v8 = .pointer (some ⟨b, 0, none⟩)) ∧ (L 2 = true → v9 = .pointer (some ⟨b, 2, none⟩)) ∧ (L 3 = true → v10 = Value.slice (some ⟨gM, 0, none⟩) x.nm cM) ∧ (L 4 = true → v11 = .int .i64 (i : Int)) ∧ (L 5 = true → v12 = .pointer (some ⟨b, 0, none⟩)) ∧ (L 6 = true → v13 = .pointer (some ⟨b, 0, none⟩)) ∧ (L 7 = true → v14 = .pointer (some ⟨b, 1, none⟩)) ∧ (L 8 = true → v15 = .pointer (some ⟨lb, 0, none⟩)) ∧ (L 9 = true → v16 = .int .i64 (i : Int)) ∧ (L 10 = true → v17 = .agg (r8 (l.row i))) ∧ (L 11 = true → v18 = .pointer (some ⟨b, 0, none⟩)) ∧ (L 12 = true → v19 = .pointer (some ⟨b, 0, none⟩)) ∧ (L 13 = true → v20 = .pointer (some ⟨b, 0, none⟩)) ∧ (L 14 = true → v21 = Value.slice (some ⟨gT, 0, none⟩) x.cs.length cT) ∧ (L 15 = true → v22 = .agg (s12V (stV x.cs (l.row i)))) ∧ (L 16 = true → v23 = .pointer (some ⟨gM, i * 12, none⟩))) (by kernel_rfl) ?_ ?_ ?_
  · exact ⟨_, _, _, _, _, _, _, _, _, _, _, _, _, _, _, _, _, rfl, ⟨V, h.out.rows.at rfl, nofun, fun _ => rfl⟩, (Kp.refl _ _).drew, nofun, nofun, nofun, nofun, nofun, nofun, nofun, nofun, nofun, nofun, nofun, nofun, nofun, nofun, nofun, nofun, nofun⟩
  · intro L az wz iz hiz hni hI hdep hcl
    obtain ⟨v7, v8, v9, v10, v11, v12, v13, v14, v15, v16, v17, v18, v19, v20, v21, v22, v23, rfl, hV, hKp, h0, h1, h2, h3, h4, h5, h6, h7, h8, h9, h10, h11, h12, h13, h14, h15, h16⟩ := hI
    have hcase : iz = 0 ∨ iz = 1 ∨ iz = 2 ∨ iz = 3 ∨ iz = 4 ∨ iz = 5 ∨ iz = 6 ∨ iz = 7 ∨ iz = 8 ∨ iz = 9 ∨ iz = 10 ∨ iz = 11 ∨ iz = 12 ∨ iz = 13 ∨ iz = 14 ∨ iz = 15 ∨ iz = 16 ∨ iz = 17 := by
      have hi2 : iz < 18 := hiz
      omega
    rcases hcase with rfl | rfl | rfl | rfl | rfl | rfl | rfl | rfl | rfl | rfl | rfl | rfl | rfl | rfl | rfl | rfl | rfl | rfl
    · -- 0
      obtain ⟨V2, hv, h17, hn⟩ := hV
      refine wpOp_step rfl fun Kz hKz => ?_
      go_simp
      exact hKz _ _ ⟨_, _, _, _, _, _, _, _, _, _, _, _, _, _, _, _, _, rfl, ⟨V2, hv, fun e => h17 (add_ne e (by decide)), fun e => hn (by cases h : L 17 with | false => rfl | true => rw [add_old h] at e; cases e)⟩, hKp, fun _ => rfl, fun e => h1 (add_ne e (by decide)), fun e => h2 (add_ne e (by decide)), fun e => h3 (add_ne e (by decide)), fun e => h4 (add_ne e (by decide)), fun e => h5 (add_ne e (by decide)), fun e => h6 (add_ne e (by decide)), fun e => h7 (add_ne e (by decide)), fun e => h8 (add_ne e (by decide)), fun e => h9 (add_ne e (by decide)), fun e => h10 (add_ne e (by decide)), fun e => h11 (add_ne e (by decide)), fun e => h12 (add_ne e (by decide)), fun e => h13 (add_ne e (by decide)), fun e => h14 (add_ne e (by decide)), fun e => h15 (add_ne e (by decide)), fun e => h16 (add_ne e (by decide))⟩
    · -- 1
      obtain ⟨V2, hv, h17, hn⟩ := hV
      have e0 := h0 (hdep 0 (by decide +kernel))
      subst e0
      refine wpOp_step rfl fun Kz hKz => ?_
      go_simp
      exact hKz _ _ ⟨_, _, _, _, _, _, _, _, _, _, _, _, _, _, _, _, _, rfl, ⟨V2, hv, fun e => h17 (add_ne e (by decide)), fun e => hn (by cases h : L 17 with | false => rfl | true => rw [add_old h] at e; cases e)⟩, hKp, fun e => h0 (add_ne e (by decide)), fun _ => rfl, fun e => h2 (add_ne e (by decide)), fun e => h3 (add_ne e (by decide)), fun e => h4 (add_ne e (by decide)), fun e => h5 (add_ne e (by decide)), fun e => h6 (add_ne e (by decide)), fun e => h7 (add_ne e (by decide)), fun e => h8 (add_ne e (by decide)), fun e => h9 (add_ne e (by decide)), fun e => h10 (add_ne e (by decide)), fun e => h11 (add_ne e (by decide)), fun e => h12 (add_ne e (by decide)), fun e => h13 (add_ne e (by decide)), fun e => h14 (add_ne e (by decide)), fun e => h15 (add_ne e (by decide)), fun e => h16 (add_ne e (by decide))⟩
    · -- 2
      obtain ⟨V2, hv, h17, hn⟩ := hV
      have e1 := h1 (hdep 1 (by decide +kernel))
      subst e1
      refine wpOp_step rfl fun Kz hKz => ?_
      go_simp
      exact hKz _ _ ⟨_, _, _, _, _, _, _, _, _, _, _, _, _, _, _, _, _, rfl, ⟨V2, hv, fun e => h17 (add_ne e (by decide)), fun e => hn (by cases h : L 17 with | false => rfl | true => rw [add_old h] at e; cases e)⟩, hKp, fun e => h0 (add_ne e (by decide)), fun e => h1 (add_ne e (by decide)), fun _ => rfl, fun e => h3 (add_ne e (by decide)), fun e => h4 (add_ne e (by decide)), fun e => h5 (add_ne e (by decide)), fun e => h6 (add_ne e (by decide)), fun e => h7 (add_ne e (by decide)), fun e => h8 (add_ne e (by decide)), fun e => h9 (add_ne e (by decide)), fun e => h10 (add_ne e (by decide)), fun e => h11 (add_ne e (by decide)), fun e => h12 (add_ne e (by decide)), fun e => h13 (add_ne e (by decide)), fun e => h14 (add_ne e (by decide)), fun e => h15 (add_ne e (by decide)), fun e => h16 (add_ne e (by decide))⟩
    · -- 3
      obtain ⟨V2, hv, h17, hn⟩ := hV
      have e2 := h2 (hdep 2 (by decide +kernel))
      subst e2
      have z := hKp.cell c2 (show ¬ b = gM from hbM)
      refine wpOp_step rfl fun Kz hKz => ?_
      go_simp
      exact hKz _ _ ⟨_, _, _, _, _, _, _, _, _, _, _, _, _, _, _, _, _, rfl, ⟨V2, hv, fun e => h17 (add_ne e (by decide)), fun e => hn (by cases h : L 17 with | false => rfl | true => rw [add_old h] at e; cases e)⟩, hKp, fun e => h0 (add_ne e (by decide)), fun e => h1 (add_ne e (by decide)), fun e => h2 (add_ne e (by decide)), fun _ => rfl, fun e => h4 (add_ne e (by decide)), fun e => h5 (add_ne e (by decide)), fun e => h6 (add_ne e (by decide)), fun e => h7 (add_ne e (by decide)), fun e => h8 (add_ne e (by decide)), fun e => h9 (add_ne e (by decide)), fun e => h10 (add_ne e (by decide)), fun e => h11 (add_ne e (by decide)), fun e => h12 (add_ne e (by decide)), fun e => h13 (add_ne e (by decide)), fun e => h14 (add_ne e (by decide)), fun e => h15 (add_ne e (by decide)), fun e => h16 (add_ne e (by decide))⟩
    · -- 4
      obtain ⟨V2, hv, h17, hn⟩ := hV
      refine wpOp_step rfl fun Kz hKz => ?_
      go_simp
      exact hKz _ _ ⟨_, _, _, _, _, _, _, _, _, _, _, _, _, _, _, _, _, rfl, ⟨V2, hv, fun e => h17 (add_ne e (by decide)), fun e => hn (by cases h : L 17 with | false => rfl | true => rw [add_old h] at e; cases e)⟩, hKp, fun e => h0 (add_ne e (by decide)), fun e => h1 (add_ne e (by decide)), fun e => h2 (add_ne e (by decide)), fun e => h3 (add_ne e (by decide)), fun _ => rfl, fun e => h5 (add_ne e (by decide)), fun e => h6 (add_ne e (by decide)), fun e => h7 (add_ne e (by decide)), fun e => h8 (add_ne e (by decide)), fun e => h9 (add_ne e (by decide)), fun e => h10 (add_ne e (by decide)), fun e => h11 (add_ne e (by decide)), fun e => h12 (add_ne e (by decide)), fun e => h13 (add_ne e (by decide)), fun e => h14 (add_ne e (by decide)), fun e => h15 (add_ne e (by decide)), fun e => h16 (add_ne e (by decide))⟩
    · -- 5
      obtain ⟨V2, hv, h17, hn⟩ := hV
      refine wpOp_step rfl fun Kz hKz => ?_
      go_simp
      exact hKz _ _ ⟨_, _, _, _, _, _, _, _, _, _, _, _, _, _, _, _, _, rfl, ⟨V2, hv, fun e => h17 (add_ne e (by decide)), fun e => hn (by cases h : L 17 with | false => rfl | true => rw [add_old h] at e; cases e)⟩, hKp, fun e => h0 (add_ne e (by decide)), fun e => h1 (add_ne e (by decide)), fun e => h2 (add_ne e (by decide)), fun e => h3 (add_ne e (by decide)), fun e => h4 (add_ne e (by decide)), fun _ => rfl, fun e => h6 (add_ne e (by decide)), fun e => h7 (add_ne e (by decide)), fun e => h8 (add_ne e (by decide)), fun e => h9 (add_ne e (by decide)), fun e => h10 (add_ne e (by decide)), fun e => h11 (add_ne e (by decide)), fun e => h12 (add_ne e (by decide)), fun e => h13 (add_ne e (by decide)), fun e => h14 (add_ne e (by decide)), fun e => h15 (add_ne e (by decide)), fun e => h16 (add_ne e (by decide))⟩
    · -- 6
      obtain ⟨V2, hv, h17, hn⟩ := hV
      have e5 := h5 (hdep 5 (by decide +kernel))
      subst e5
      refine wpOp_step rfl fun Kz hKz => ?_
      go_simp
      exact hKz _ _ ⟨_, _, _, _, _, _, _, _, _, _, _, _, _, _, _, _, _, rfl, ⟨V2, hv, fun e => h17 (add_ne e (by decide)), fun e => hn (by cases h : L 17 with | false => rfl | true => rw [add_old h] at e; cases e)⟩, hKp, fun e => h0 (add_ne e (by decide)), fun e => h1 (add_ne e (by decide)), fun e => h2 (add_ne e (by decide)), fun e => h3 (add_ne e (by decide)), fun e => h4 (add_ne e (by decide)), fun e => h5 (add_ne e (by decide)), fun _ => rfl, fun e => h7 (add_ne e (by decide)), fun e => h8 (add_ne e (by decide)), fun e => h9 (add_ne e (by decide)), fun e => h10 (add_ne e (by decide)), fun e => h11 (add_ne e (by decide)), fun e => h12 (add_ne e (by decide)), fun e => h13 (add_ne e (by decide)), fun e => h14 (add_ne e (by decide)), fun e => h15 (add_ne e (by decide)), fun e => h16 (add_ne e (by decide))⟩
    · -- 7
      obtain ⟨V2, hv, h17, hn⟩ := hV
      have e6 := h6 (hdep 6 (by decide +kernel))
      subst e6
      refine wpOp_step rfl fun Kz hKz => ?_
      go_simp
      exact hKz _ _ ⟨_, _, _, _, _, _, _, _, _, _, _, _, _, _, _, _, _, rfl, ⟨V2, hv, fun e => h17 (add_ne e (by decide)), fun e => hn (by cases h : L 17 with | false => rfl | true => rw [add_old h] at e; cases e)⟩, hKp, fun e => h0 (add_ne e (by decide)), fun e => h1 (add_ne e (by decide)), fun e => h2 (add_ne e (by decide)), fun e => h3 (add_ne e (by decide)), fun e => h4 (add_ne e (by decide)), fun e => h5 (add_ne e (by decide)), fun e => h6 (add_ne e (by decide)), fun _ => rfl, fun e => h8 (add_ne e (by decide)), fun e => h9 (add_ne e (by decide)), fun e => h10 (add_ne e (by decide)), fun e => h11 (add_ne e (by decide)), fun e => h12 (add_ne e (by decide)), fun e => h13 (add_ne e (by decide)), fun e => h14 (add_ne e (by decide)), fun e => h15 (add_ne e (by decide)), fun e => h16 (add_ne e (by decide))⟩
    · -- 8
      obtain ⟨V2, hv, h17, hn⟩ := hV
      have e7 := h7 (hdep 7 (by decide +kernel))
      subst e7
      have z := hKp.cell c1 (show ¬ b = gM from hbM)
      refine wpOp_step rfl fun Kz hKz => ?_
      go_simp
      exact hKz _ _ ⟨_, _, _, _, _, _, _, _, _, _, _, _, _, _, _, _, _, rfl, ⟨V2, hv, fun e => h17 (add_ne e (by decide)), fun e => hn (by cases h : L 17 with | false => rfl | true => rw [add_old h] at e; cases e)⟩, hKp, fun e => h0 (add_ne e (by decide)), fun e => h1 (add_ne e (by decide)), fun e => h2 (add_ne e (by decide)), fun e => h3 (add_ne e (by decide)), fun e => h4 (add_ne e (by decide)), fun e => h5 (add_ne e (by decide)), fun e => h6 (add_ne e (by decide)), fun e => h7 (add_ne e (by decide)), fun _ => rfl, fun e => h9 (add_ne e (by decide)), fun e => h10 (add_ne e (by decide)), fun e => h11 (add_ne e (by decide)), fun e => h12 (add_ne e (by decide)), fun e => h13 (add_ne e (by decide)), fun e => h14 (add_ne e (by decide)), fun e => h15 (add_ne e (by decide)), fun e => h16 (add_ne e (by decide))⟩
    · -- 9
      obtain ⟨V2, hv, h17, hn⟩ := hV
      refine wpOp_step rfl fun Kz hKz => ?_
      go_simp
      exact hKz _ _ ⟨_, _, _, _, _, _, _, _, _, _, _, _, _, _, _, _, _, rfl, ⟨V2, hv, fun e => h17 (add_ne e (by decide)), fun e => hn (by cases h : L 17 with | false => rfl | true => rw [add_old h] at e; cases e)⟩, hKp, fun e => h0 (add_ne e (by decide)), fun e => h1 (add_ne e (by decide)), fun e => h2 (add_ne e (by decide)), fun e => h3 (add_ne e (by decide)), fun e => h4 (add_ne e (by decide)), fun e => h5 (add_ne e (by decide)), fun e => h6 (add_ne e (by decide)), fun e => h7 (add_ne e (by decide)), fun e => h8 (add_ne e (by decide)), fun _ => rfl, fun e => h10 (add_ne e (by decide)), fun e => h11 (add_ne e (by decide)), fun e => h12 (add_ne e (by decide)), fun e => h13 (add_ne e (by decide)), fun e => h14 (add_ne e (by decide)), fun e => h15 (add_ne e (by decide)), fun e => h16 (add_ne e (by decide))⟩
    · -- 10
      obtain ⟨V2, hv, h17, hn⟩ := hV
      have e8 := h8 (hdep 8 (by decide +kernel))
      subst e8
      have e9 := h9 (hdep 9 (by decide +kernel))
      subst e9
      have hc := account_any (i : Int) wz (hL.out.kept fun j hj hp => hKp.block j hj fun e => hd.out j hp (e ▸ h.out.own.2.2))
      rw [show r8 (fun c => l.get (i : Int) (c : Nat)) = r8 (l.row i) from rfl] at hc
      replace hc := Lib.hid hc
      refine wpOp_step rfl fun Kz hKz => ?_
      go_simp
      go_at_call 69
      refine (hc.out).mono ?_
      rintro e w1 ⟨rfl, hb1⟩
      have hv2 := hv.at (hb1.block _ hv.lt)
      have hK2 := hKp.then (Kp.of_below (F := fun j => j = gM) hb1) (fun j hj e => e)
      replace hv2 := Lib.hid hv2
      go_simp
      exact hKz _ _ ⟨_, _, _, _, _, _, _, _, _, _, _, _, _, _, _, _, _, rfl, ⟨V2, hv2.out, fun e => h17 (add_ne e (by decide)), fun e => hn (by cases h : L 17 with | false => rfl | true => rw [add_old h] at e; cases e)⟩, hK2, fun e => h0 (add_ne e (by decide)), fun e => h1 (add_ne e (by decide)), fun e => h2 (add_ne e (by decide)), fun e => h3 (add_ne e (by decide)), fun e => h4 (add_ne e (by decide)), fun e => h5 (add_ne e (by decide)), fun e => h6 (add_ne e (by decide)), fun e => h7 (add_ne e (by decide)), fun e => h8 (add_ne e (by decide)), fun e => h9 (add_ne e (by decide)), fun _ => rfl, fun e => h11 (add_ne e (by decide)), fun e => h12 (add_ne e (by decide)), fun e => h13 (add_ne e (by decide)), fun e => h14 (add_ne e (by decide)), fun e => h15 (add_ne e (by decide)), fun e => h16 (add_ne e (by decide))⟩
    · -- 11
      obtain ⟨V2, hv, h17, hn⟩ := hV
      refine wpOp_step rfl fun Kz hKz => ?_
      go_simp
      exact hKz _ _ ⟨_, _, _, _, _, _, _, _, _, _, _, _, _, _, _, _, _, rfl, ⟨V2, hv, fun e => h17 (add_ne e (by decide)), fun e => hn (by cases h : L 17 with | false => rfl | true => rw [add_old h] at e; cases e)⟩, hKp, fun e => h0 (add_ne e (by decide)), fun e => h1 (add_ne e (by decide)), fun e => h2 (add_ne e (by decide)), fun e => h3 (add_ne e (by decide)), fun e => h4 (add_ne e (by decide)), fun e => h5 (add_ne e (by decide)), fun e => h6 (add_ne e (by decide)), fun e => h7 (add_ne e (by decide)), fun e => h8 (add_ne e (by decide)), fun e => h9 (add_ne e (by decide)), fun e => h10 (add_ne e (by decide)), fun _ => rfl, fun e => h12 (add_ne e (by decide)), fun e => h13 (add_ne e (by decide)), fun e => h14 (add_ne e (by decide)), fun e => h15 (add_ne e (by decide)), fun e => h16 (add_ne e (by decide))⟩
    · -- 12
      obtain ⟨V2, hv, h17, hn⟩ := hV
      have e11 := h11 (hdep 11 (by decide +kernel))
      subst e11
      refine wpOp_step rfl fun Kz hKz => ?_
      go_simp
      exact hKz _ _ ⟨_, _, _, _, _, _, _, _, _, _, _, _, _, _, _, _, _, rfl, ⟨V2, hv, fun e => h17 (add_ne e (by decide)), fun e => hn (by cases h : L 17 with | false => rfl | true => rw [add_old h] at e; cases e)⟩, hKp, fun e => h0 (add_ne e (by decide)), fun e => h1 (add_ne e (by decide)), fun e => h2 (add_ne e (by decide)), fun e => h3 (add_ne e (by decide)), fun e => h4 (add_ne e (by decide)), fun e => h5 (add_ne e (by decide)), fun e => h6 (add_ne e (by decide)), fun e => h7 (add_ne e (by decide)), fun e => h8 (add_ne e (by decide)), fun e => h9 (add_ne e (by decide)), fun e => h10 (add_ne e (by decide)), fun e => h11 (add_ne e (by decide)), fun _ => rfl, fun e => h13 (add_ne e (by decide)), fun e => h14 (add_ne e (by decide)), fun e => h15 (add_ne e (by decide)), fun e => h16 (add_ne e (by decide))⟩
    · -- 13
      obtain ⟨V2, hv, h17, hn⟩ := hV
      have e12 := h12 (hdep 12 (by decide +kernel))
      subst e12
      refine wpOp_step rfl fun Kz hKz => ?_
      go_simp
      exact hKz _ _ ⟨_, _, _, _, _, _, _, _, _, _, _, _, _, _, _, _, _, rfl, ⟨V2, hv, fun e => h17 (add_ne e (by decide)), fun e => hn (by cases h : L 17 with | false => rfl | true => rw [add_old h] at e; cases e)⟩, hKp, fun e => h0 (add_ne e (by decide)), fun e => h1 (add_ne e (by decide)), fun e => h2 (add_ne e (by decide)), fun e => h3 (add_ne e (by decide)), fun e => h4 (add_ne e (by decide)), fun e => h5 (add_ne e (by decide)), fun e => h6 (add_ne e (by decide)), fun e => h7 (add_ne e (by decide)), fun e => h8 (add_ne e (by decide)), fun e => h9 (add_ne e (by decide)), fun e => h10 (add_ne e (by decide)), fun e => h11 (add_ne e (by decide)), fun e => h12 (add_ne e (by decide)), fun _ => rfl, fun e => h14 (add_ne e (by decide)), fun e => h15 (add_ne e (by decide)), fun e => h16 (add_ne e (by decide))⟩
    · -- 14
      obtain ⟨V2, hv, h17, hn⟩ := hV
      have e13 := h13 (hdep 13 (by decide +kernel))
      subst e13
      have z := hKp.cell c0 (show ¬ b = gM from hbM)
      refine wpOp_step rfl fun Kz hKz => ?_
      go_simp
      exact hKz _ _ ⟨_, _, _, _, _, _, _, _, _, _, _, _, _, _, _, _, _, rfl, ⟨V2, hv, fun e => h17 (add_ne e (by decide)), fun e => hn (by cases h : L 17 with | false => rfl | true => rw [add_old h] at e; cases e)⟩, hKp, fun e => h0 (add_ne e (by decide)), fun e => h1 (add_ne e (by decide)), fun e => h2 (add_ne e (by decide)), fun e => h3 (add_ne e (by decide)), fun e => h4 (add_ne e (by decide)), fun e => h5 (add_ne e (by decide)), fun e => h6 (add_ne e (by decide)), fun e => h7 (add_ne e (by decide)), fun e => h8 (add_ne e (by decide)), fun e => h9 (add_ne e (by decide)), fun e => h10 (add_ne e (by decide)), fun e => h11 (add_ne e (by decide)), fun e => h12 (add_ne e (by decide)), fun e => h13 (add_ne e (by decide)), fun _ => rfl, fun e => h15 (add_ne e (by decide)), fun e => h16 (add_ne e (by decide))⟩
    · -- 15
      obtain ⟨V2, hv, h17, hn⟩ := hV
      have e10 := h10 (hdep 10 (by decide +kernel))
      subst e10
      have e14 := h14 (hdep 14 (by decide +kernel))
      subst e14
      have hTz := h.out.tab.at h.out.tlt hKp.size (hKp.block _ h.out.tlt h.out.apart)
      have hc := by_any (l.row i) (some ⟨gT, 0, none⟩) x.cs.length cT x.cs wz hTz h.out.n8 h.out.oob hin.out
      rw [show s12 (l.row i) (netF x.cs (l.row i) x.cs.length 0 0) (shortF x.cs (l.row i) x.cs.length 0 0) = s12V (stV x.cs (l.row i)) from rfl] at hc
      replace hTz := Lib.hid hTz
      replace hc := Lib.hid hc
      refine wpOp_step rfl fun Kz hKz => ?_
      go_simp
      go_at_call 70
      refine (hc.out).mono ?_
      rintro e w1 ⟨rfl, hb1⟩
      have hv2 := hv.at (hb1.block _ hv.lt)
      have hK2 := hKp.then (Kp.of_below (F := fun j => j = gM) hb1) (fun j hj e => e)
      replace hv2 := Lib.hid hv2
      go_simp
      exact hKz _ _ ⟨_, _, _, _, _, _, _, _, _, _, _, _, _, _, _, _, _, rfl, ⟨V2, hv2.out, fun e => h17 (add_ne e (by decide)), fun e => hn (by cases h : L 17 with | false => rfl | true => rw [add_old h] at e; cases e)⟩, hK2, fun e => h0 (add_ne e (by decide)), fun e => h1 (add_ne e (by decide)), fun e => h2 (add_ne e (by decide)), fun e => h3 (add_ne e (by decide)), fun e => h4 (add_ne e (by decide)), fun e => h5 (add_ne e (by decide)), fun e => h6 (add_ne e (by decide)), fun e => h7 (add_ne e (by decide)), fun e => h8 (add_ne e (by decide)), fun e => h9 (add_ne e (by decide)), fun e => h10 (add_ne e (by decide)), fun e => h11 (add_ne e (by decide)), fun e => h12 (add_ne e (by decide)), fun e => h13 (add_ne e (by decide)), fun e => h14 (add_ne e (by decide)), fun _ => rfl, fun e => h16 (add_ne e (by decide))⟩
    · -- 16
      obtain ⟨V2, hv, h17, hn⟩ := hV
      have e3 := h3 (hdep 3 (by decide +kernel))
      subst e3
      have e4 := h4 (hdep 4 (by decide +kernel))
      subst e4
      refine wpOp_step rfl fun Kz hKz => ?_
      go_simp
      exact hKz _ _ ⟨_, _, _, _, _, _, _, _, _, _, _, _, _, _, _, _, _, rfl, ⟨V2, hv, fun e => h17 (add_ne e (by decide)), fun e => hn (by cases h : L 17 with | false => rfl | true => rw [add_old h] at e; cases e)⟩, hKp, fun e => h0 (add_ne e (by decide)), fun e => h1 (add_ne e (by decide)), fun e => h2 (add_ne e (by decide)), fun e => h3 (add_ne e (by decide)), fun e => h4 (add_ne e (by decide)), fun e => h5 (add_ne e (by decide)), fun e => h6 (add_ne e (by decide)), fun e => h7 (add_ne e (by decide)), fun e => h8 (add_ne e (by decide)), fun e => h9 (add_ne e (by decide)), fun e => h10 (add_ne e (by decide)), fun e => h11 (add_ne e (by decide)), fun e => h12 (add_ne e (by decide)), fun e => h13 (add_ne e (by decide)), fun e => h14 (add_ne e (by decide)), fun e => h15 (add_ne e (by decide)), fun _ => rfl⟩
    · -- 17
      obtain ⟨V2, hv, h17, hn⟩ := hV
      have e16 := h16 (hdep 16 (by decide +kernel))
      subst e16
      have e15 := h15 (hdep 15 (by decide +kernel))
      subst e15
      have eV := hn hni
      subst eV
      obtain ⟨y0, y1, y2, y3, y4, y5, y6, y7, y8, y9, y10, y11⟩ := hv.cells hi
      have hz2 := hv.free
      have hv3 := hv.set hi (stV x.cs (l.row i))
      have hK3 := hKp.st12 (p := gM) (.inl rfl) (i * 12) (stV x.cs (l.row i))
      generalize hsv : stV x.cs (l.row i) = sv at *
      replace hsv := Lib.hid hsv
      replace hv := Lib.hid hv
      replace hv3 := Lib.hid hv3
      replace hK3 := Lib.hid hK3
      unfold s12V s12
      refine wpOp_step rfl fun Kz hKz => ?_
      go_simp
      exact hKz _ _ ⟨_, _, _, _, _, _, _, _, _, _, _, _, _, _, _, _, _, rfl, ⟨_, hv3.out, fun _ => rfl, fun e => by rw [show add L 17 17 = true from add_iff.2 (.inr rfl)] at e; cases e⟩, hK3.out, fun e => h0 (add_ne e (by decide)), fun e => h1 (add_ne e (by decide)), fun e => h2 (add_ne e (by decide)), fun e => h3 (add_ne e (by decide)), fun e => h4 (add_ne e (by decide)), fun e => h5 (add_ne e (by decide)), fun e => h6 (add_ne e (by decide)), fun e => h7 (add_ne e (by decide)), fun e => h8 (add_ne e (by decide)), fun e => h9 (add_ne e (by decide)), fun e => h10 (add_ne e (by decide)), fun e => h11 (add_ne e (by decide)), fun e => h12 (add_ne e (by decide)), fun e => h13 (add_ne e (by decide)), fun e => h14 (add_ne e (by decide)), fun e => h15 (add_ne e (by decide)), fun e => h16 (add_ne e (by decide))⟩
  · intro L az wz hI hL
    obtain ⟨v7, v8, v9, v10, v11, v12, v13, v14, v15, v16, v17, v18, v19, v20, v21, v22, v23, rfl, hV, hKp, h0, h1, h2, h3, h4, h5, h6, h7, h8, h9, h10, h11, h12, h13, h14, h15, h16⟩ := hI
    obtain ⟨V2, hv, h17, hn⟩ := hV
    go_end0
    exact ⟨rfl, by rw [← h17 (hL 17 (by decide))]; exact hv, hKp⟩
end Go.Proofs.YtiehbbhjpcnbnaaGreat
namespace Go.Proofs.YtiehbbhjpcnbnaaGreat
open Go.RowKit
set_option linter.unusedVariables false

theorem WPv.tot {P : Nat → Prop} {w w' : World} {b lb gT cT gM cM : Nat} {x y : WM} {V V' : Nat → SV} (h : WPv P w b lb x V gT cT gM cM) (hK : Kp (fun j => j = gM) w w') (hM : MR w' gM V' x.nm) (e1 : y.cs = x.cs) (e2 : y.nm = x.nm) (hin : ∀ m c, In64 (y.S m c)) : WPv P w' b lb y V' gT cT gM cM := by
  have hbM : b ≠ gM := by obtain ⟨ds, hy, _⟩ := h.rows; exact obj_ne h.obj hy (by decide)
  refine ⟨?_, ?_, Nat.lt_of_lt_of_le h.tlt hK.size, by rw [e2]; exact hM, by rw [e2]; exact h.nm, by rw [e1]; exact h.chk, h.own, hin, h.apart⟩
  · have e : wArr y lb gT cT gM cM = wArr x lb gT cT gM cM := by unfold wArr; rw [e1, e2]
    rw [e]; exact (hK.block _ (obj_lt h.obj) hbM).trans h.obj
  · rw [e1]; exact h.tab.at h.tlt hK.size (hK.block _ h.tlt h.apart)
def WM.moved (x : WM) (l : LM) (m : Int) : WM := if x.has m then ⟨x.cs, x.nm, fun a => if a = m.toNat then l.row m.toNat else x.S a⟩ else x
theorem get_in {l : LM} (h : l.Good) (m c : Int) : In64 (l.get m c) := by
  unfold LM.get
  split
  · exact h.ok.b _ _
  · decide
set_option maxHeartbeats 1000000 in
theorem moved_any {PF P : Nat → Prop} {b lb : Nat} {x : WM} {l : LM} (m : Int) (w : World) (hL : PL PF w lb l) (hg : l.Good) (hW : WP P w b lb x) (hd : ∀ j, PF j → ¬ P j) :
    Calls Tryz.prog 45 #[.pointer (some ⟨b, 0, none⟩), .int .i64 m] w fun e w' => e = .returned (.tuple #[]) ∧ WP P w' b lb (x.moved l m) ∧ Kp P w w' := by
  obtain ⟨gT, cT, gM, cM, h⟩ := hW
  unfold WM.moved
  cases hh : x.has m with
  | false =>
    have hH := whas_any m w h
    rw [hh] at hH
    rw [if_neg (by simp)]
    replace hH := Lib.hid hH
    replace h := Lib.hid h
    go_enter Tryz.func45, Tryz.ntmps45
    go_wp2_with (first | (go_at_call 68; (with_reducible refine hH.out.mono ?_); rintro e w1 ⟨rfl, rfl⟩))
    go_end0
    exact ⟨rfl, ⟨gT, cT, gM, cM, h.out⟩, Kp.refl _ _⟩
  | true =>
    rw [if_pos rfl]
    obtain ⟨i, rfl, hi⟩ := WM.has_nat hh
    obtain ⟨gB, cB, hLv⟩ := hL
    refine (moved_v i w hLv h hd hi (fun c => get_in hg _ _)).mono ?_
    rintro e w' ⟨rfl, hM, hK⟩
    have ei : ((i : Int)).toNat = i := by omega
    refine ⟨rfl, ⟨gT, cT, gM, cM, h.tot (y := ⟨x.cs, x.nm, _⟩) hK (hM.congr fun a ha => ?_) rfl rfl fun a c => ?_⟩, hK.mono fun j hj e => e ▸ h.own.2.2⟩
    · dsimp only
      rw [ei]
      by_cases e : a = i
      · subst e; rw [updV_same, if_pos rfl]
      · rw [updV_other _ _ e, if_neg e]
    · dsimp only
      split
      · exact get_in hg _ _
      · exact h.in64 _ _

/-- reckon's way -/
structure RK (P : Nat → Prop) (u : World) (b lb : Nat) (x : WM) (k : Nat) (V : Nat → SV) (gT cT gM cM : Nat) (wr : World) : Prop where
  ws : WPv P wr b lb x V gT cT gM cM
  old : ∀ m, (V m).1 = x.S m
  got : ∀ m, m < k → V m = stV x.cs (x.S m)
  kp : Kp P u wr

theorem RK.step {P : Nat → Prop} {w v wc : World} {b lb : Nat} {x : WM} {k : Nat} {V : Nat → SV} {g c gM cM : Nat} (h1 : WPv P v b lb x V g c gM cM) (ho : ∀ m, (V m).1 = x.S m) (hg : ∀ m, m < k → V m = stV x.cs (x.S m)) (hK : Kp P w v)
    (hM : MR wc gM (updV V k (stV x.cs (x.S k))) x.nm) (hKp : Kp (fun j => j = gM) v wc) : RK P w b lb x (k + 1) (updV V k (stV x.cs (x.S k))) g c gM cM wc := by
  refine ⟨h1.tot hKp hM rfl rfl h1.in64, fun m => ?_, fun m hm => ?_, hK.then hKp (fun j hj e => e ▸ h1.own.2.2)⟩
  · by_cases e : m = k
    · subst e; rw [updV_same]; rfl
    · rw [updV_other _ _ e]; exact ho m
  · by_cases e : m = k
    · subst e; rw [updV_same]
    · rw [updV_other _ _ e]; exact hg m (by omega)

end Go.Proofs.YtiehbbhjpcnbnaaGreat
namespace Go.Proofs.YtiehbbhjpcnbnaaGreat
open Go.RowKit
set_option linter.unusedVariables false

/-- by another table, if it may be -/
noncomputable def WM.by (x : WM) (cs : List Cur) : Int × WM := if chkT cs = 0 then (0, ⟨cs, x.nm, x.S⟩) else (1, x)
noncomputable def WM.rate (x : WM) (cur v : Int) : Int × WM := if 0 ≤ cur ∧ cur < x.cs.length then x.by (x.cs.set cur.toNat { cAt x.cs cur.toNat with rate := v }) else (1, x)
noncomputable def WM.cutt (x : WM) (cur v : Int) : Int × WM := if 0 ≤ cur ∧ cur < x.cs.length then x.by (x.cs.set cur.toNat { cAt x.cs cur.toNat with cut := v }) else (1, x)
def ByP (P : Nat → Prop) (b lb : Nat) (r : Int × WM) (w : World) (e : Ending) (w' : World) : Prop := e = .returned (.int .i64 r.1) ∧ WP P w' b lb r.2 ∧ Kp P w w'

end Go.Proofs.YtiehbbhjpcnbnaaGreat
namespace Go.Proofs.YtiehbbhjpcnbnaaGreat
open Go.RowKit
set_option linter.unusedVariables false

theorem Tryz.info93r : (Tryz.prog.info? 137).map (fun i => (i.zero, i.size, i.bytes)) = some (some (.agg (s12 (fun _ => 0) (0, 0) (0, 0))), 12, 96) := by kernel_rfl
/-- standings that are 0 -/
def zst (n : Nat) : Array Value := madeCells (s12 (fun _ => 0) (0, 0) (0, 0)) (n * 12)
theorem zst_get (n : Nat) : ∀ m, m < n → ∀ j, j < 12 → (zst n)[m * 12 + j]? = (s12V (fun _ => 0, (0, 0), (0, 0)))[j]? := fun m hm j hj => by
  unfold zst madeCells s12V s12
  have h : m * 12 + j < n * 12 := by omega
  have h8 : (m * 12 + j) % 12 = j := by omega
  simp [h, h8]
  rcases lt12 hj with rfl | rfl | rfl | rfl | rfl | rfl | rfl | rfl | rfl | rfl | rfl | rfl <;> rfl
theorem make_standings (n : Nat) (hn : n ≤ 1000) (w : World) :
    (Instr.makeSlice 139 (.int .i64 (n : Int)) (.int .i64 (n : Int))).run Tryz.prog w = .ok (.slice (some ⟨w.heap.size, 0, none⟩) n n) (w.alloc (.cells (zst n) 137)) := by
  obtain ⟨i0, hi, hz0, hz1, hz2⟩ := info_parts Tryz.info93r
  have hb : (i0.bytes : Int) * (n : Int) ≤ 281474976710656 := by rw [hz2]; omega
  have hr := run_make (P := Tryz.prog) w 139 137 i0 _ Tryz.underlying139 hi hz0 .i64 .i64 n n (by omega) (by omega) hb (by omega)
  simp only [Int.toNat_natCast, hz1] at hr
  exact hr

/-- a table checked, a ledger of so many members: what New lays -/
structure NWS (w : World) (cs : List Cur) (nm lb : Nat) (L1 L4 L6 : Bool) (g c gM b : Nat) (wz : World) : Prop where
  blw : Below w.heap.size w wz
  t : L1 = true → Tab wz (some ⟨g, 0, none⟩) cs.length cs ∧ w.heap.size ≤ g ∧ g < wz.heap.size
  m : L4 = true → wz.heap[gM]? = some (.cells (zst nm) 137 (0, 0)) ∧ w.heap.size ≤ gM
  a : L1 = true → L4 = true → g ≠ gM
  b : L6 = true → wz.heap[b]? = some (.cells #[.slice (some ⟨g, 0, none⟩) cs.length c, .pointer (some ⟨lb, 0, none⟩), .slice (some ⟨gM, 0, none⟩) nm nm] 141 (0, 0)) ∧ w.heap.size ≤ b
section
variable {w wz w' : World} {cs : List Cur} {nm lb g c gM b : Nat} {L1 L4 L6 L1' L4' L6' : Bool}
theorem NWS.mono (h : NWS w cs nm lb L1 L4 L6 g c gM b wz) (h1 : L1' = true → L1 = true) (h4 : L4' = true → L4 = true) (h6 : L6' = true → L6 = true) : NWS w cs nm lb L1' L4' L6' g c gM b wz :=
  ⟨h.blw, fun e => h.t (h1 e), fun e => h.m (h4 e), fun e f => h.a (h1 e) (h4 f), fun e => h.b (h6 e)⟩
theorem NWS.on (h : NWS w cs nm lb L1 L4 L6 g c gM b wz) (hb : Below wz.heap.size wz w') : NWS w cs nm lb L1 L4 L6 g c gM b w' :=
  ⟨h.blw.trans (hb.mono h.blw.size), fun e => ⟨(h.t e).1.kept hb, (h.t e).2.1, Nat.lt_of_lt_of_le (h.t e).2.2 hb.size⟩, fun e => ⟨(hb.block _ (obj_lt (h.m e).1)).trans (h.m e).1, (h.m e).2⟩, h.a,
    fun e => ⟨(hb.block _ (obj_lt (h.b e).1)).trans (h.b e).1, (h.b e).2⟩⟩
end
theorem PLv.only {P : Nat → Prop} {w : World} {b gB cB : Nat} {l : LM} (h : PLv P w b l gB cB) : PLv (fun j => j = b ∨ j = gB) w b l gB cB := ⟨h.obj, h.bal, h.nm, h.nc, .inl rfl, .inr rfl⟩
/-- worths by a ledger -/
def WM.new (cs : List Cur) (l : LM) : WM := ⟨cs, l.nm, fun m => l.row m⟩
/-- New's way: k members are taken -/
structure NWL (w : World) (b lb : Nat) (x : WM) (k : Nat) (V : Nat → SV) (gT cT gM cM : Nat) (wr : World) : Prop where
  ws : WPv (fun j => w.heap.size ≤ j) wr b lb x V gT cT gM cM
  got : ∀ m, m < k → V m = stV x.cs (x.S m)
  blw : Below w.heap.size w wr
theorem NWS.done {w wz : World} {cs : List Cur} {nm lb g c gM b : Nat} {l : LM} (h : NWS w cs nm lb true true true g c gM b wz) (hg : l.Good) (hn : nm = l.nm) (hc : chkT cs = 0) : NWL w b lb (WM.new cs l) 0 (fun _ => (fun _ => 0, (0, 0), (0, 0))) g c gM nm wz := by
  subst hn
  exact ⟨⟨(h.b rfl).1, (h.t rfl).1, (h.t rfl).2.2, ⟨_, (h.m rfl).1, zst_get _⟩, hg.ok.nm.2, hc, ⟨(h.b rfl).2, (h.t rfl).2.1, (h.m rfl).2⟩, fun m c => get_in hg _ _, h.a rfl rfl⟩, fun m hm => by omega, h.blw⟩
theorem NWL.step {w wr w' : World} {b lb k gT cT gM cM : Nat} {x : WM} {V : Nat → SV} (h : NWL w b lb x k V gT cT gM cM wr) (hM : MR w' gM (updV V k (stV x.cs (x.S k))) x.nm) (hK : Kp (fun j => j = gM) wr w') : NWL w b lb x (k + 1) (updV V k (stV x.cs (x.S k))) gT cT gM cM w' := by
  refine ⟨h.ws.tot hK hM rfl rfl h.ws.in64, fun m hm => ?_, h.blw.trans ((hK.below (B := w.heap.size) h.blw.size fun j hj e => ?_))⟩
  · by_cases e : m = k
    · subst e; rw [updV_same]
    · rw [updV_other _ _ e]; exact h.got m (by omega)
  · have := h.ws.own.2.2; omega

/-- what New tells -/
def NewW (lb : Nat) (cs : List Cur) (l : LM) (w : World) (e : Ending) (w' : World) : Prop :=
  (chkT cs ≠ 0 → e = .returned (.tuple #[.pointer none, .int .i64 (chkT cs)])) ∧ (chkT cs = 0 → cs.length ≠ l.nc → e = .returned (.tuple #[.pointer none, .int .i64 1])) ∧
  (chkT cs = 0 → cs.length = l.nc → ∃ b, e = .returned (.tuple #[.pointer (some ⟨b, 0, none⟩), .int .i64 0]) ∧ WP (fun j => w.heap.size ≤ j) w' b lb (WM.new cs l)) ∧ Below w.heap.size w w'

set_option maxHeartbeats 4000000 in
set_option maxRecDepth 100000 in
theorem wnew_any {PF : Nat → Prop} {p : Option Addr} {len cap lb : Nat} {cs : List Cur} {l : LM} (w : World) (hT : Tab w p len cs) (hL : PL PF w lb l) (hg : l.Good) :
    Calls Tryz.prog 48 #[.slice p len cap, .pointer (some ⟨lb, 0, none⟩)] w (NewW lb cs l w) := by
  obtain ⟨gB, cB, hL⟩ := hL
  have hlen : cs.length = len := hT.1
  have hlb := obj_lt hL.obj
  have hlg := hL.bal.lt
  have hC := check_any p len cap cs w hT
  by_cases hc : chkT cs = 0
  · rw [hc] at hC
    by_cases hn : len = l.nc
    · subst hn
      have h1 := (chk_ok hc).1
      have h8 := (chk_ok hc).2.1
      rw [hlen] at h1 h8
      obtain ⟨hq1, hz, hq2, hcells⟩ := id hT
      clear hq1 hq2
      obtain ⟨pb, poff, rfl, hpb, hpc⟩ := hcells.resolve_left (by omega)
      have hn16 := hg.ok.nm.2
      have hmk := fun w => make_standings l.nm (by omega) w
      replace hcells := Lib.hid hcells
      replace hpc := Lib.hid hpc
      replace hz := Lib.hid hz
      replace hC := Lib.hid hC
      replace hT := Lib.hid hT
      replace hL := Lib.hid hL
      replace hg := Lib.hid hg
      replace hc := Lib.hid hc
      replace hlen := Lib.hid hlen
      go_enter Tryz.func48, Tryz.ntmps48
      go_upto_region 6 with (first | (go_at_call 72; (with_reducible refine hC.out.mono ?_); rintro e w1 ⟨rfl, hb1⟩))
      have hL1 := hL.out.below hb1
      have hT1 := hT.out.kept hb1
      have hS := psize_any w1 hL1
      replace hS := Lib.hid hS
      replace hT1 := Lib.hid hT1
      replace hL1 := Lib.hid hL1
      go_upto_region 9 with (first | (go_at_call 27; (with_reducible refine hS.out.mono ?_); rintro e w2 ⟨rfl, nd, rfl⟩))
      have hB2 : Below w.heap.size w (w1.drewN nd) := below_drewN hb1 nd
      have hL2 : PLv PF (w1.drewN nd) lb l gB cB := hL1.out.kept fun _ _ _ => rfl
      have hT2 : Tab (w1.drewN nd) (some ⟨pb, poff, none⟩) l.nc cs := hT1.out.kept (below_drewN (Below.refl _ _) nd)
      generalize w1.drewN nd = v at *
      clear hmk
      replace hB2 := Lib.hid hB2
      replace hL2 := Lib.hid hL2
      replace hT2 := Lib.hid hT2
      go_cut [9] from 27 to 33 (fun v9 wc => ∃ g c gM b : Nat, v9 = .pointer (some ⟨b, 0, none⟩) ∧ Hid (NWS w cs l.nm lb true true true g c gM b wc))
      case first =>
        rename_i J1 K1 hJ1 hK1
        refine wp_region_closed (by kernel_rfl) (fun L az wz => ∃ v9 v27 v28 v29 v30 v31 v32 v33 : Value, az = ({ tmps := (Value.slice (some ⟨pb, poff, none⟩) l.nc cap :: .pointer (some ⟨lb, 0, none⟩) :: undef :: undef :: .pointer none :: .int .i64 0 :: .int .i64 0 :: .int .i64 (l.nm : Int) :: .int .i64 (l.nc : Int) :: v9 :: undef :: Value.slice (some ⟨pb, poff, none⟩) l.nc cap :: .int .i64 0 :: .int .i64 0 :: .bool false :: undef :: .pointer (some ⟨lb, 0, none⟩) :: .bool false :: .tuple #[.int .i64 (l.nm : Int), .int .i64 (l.nc : Int)] :: .pointer (some ⟨lb, 0, none⟩) :: .tuple #[.int .i64 (l.nm : Int), .int .i64 (l.nc : Int)] :: .int .i64 (l.nm : Int) :: .int .i64 (l.nc : Int) :: .int .i64 (l.nc : Int) :: Value.slice (some ⟨pb, poff, none⟩) l.nc cap :: .int .i64 (l.nc : Int) :: .bool false :: v27 :: v28 :: v29 :: v30 :: v31 :: v32 :: v33 :: undef :: undef :: undef :: undef :: undef :: undef :: undef :: undef :: undef :: []).toArray, defers := [] } : Act) ∧ (∃ g c gM b : Nat, NWS w cs l.nm lb (L 1) (L 4) (L 6) g c gM b wz ∧ (L 1 = true → v28 = .slice (some ⟨g, 0, none⟩) cs.length c) ∧ (L 4 = true → v31 = .slice (some ⟨gM, 0, none⟩) l.nm l.nm) ∧ (L 5 = true → v32 = .agg #[.slice (some ⟨g, 0, none⟩) cs.length c, .pointer (some ⟨lb, 0, none⟩), .slice (some ⟨gM, 0, none⟩) l.nm l.nm]) ∧ (L 6 = true → v33 = .pointer (some ⟨b, 0, none⟩)) ∧ (L 7 = true → v9 = .pointer (some ⟨b, 0, none⟩))) ∧ (Below v.heap.size v wz) ∧ (L 0 = true → v27 = Value.slice (some ⟨pb, poff, none⟩) l.nc cap) ∧ (L 2 = true → v29 = .pointer (some ⟨lb, 0, none⟩)) ∧ (L 3 = true → v30 = .int .i64 (l.nm : Int))) (by kernel_rfl) ?_ ?_ ?_
        · exact ⟨_, _, _, _, _, _, _, _, rfl, ⟨0, 0, 0, 0, ⟨hB2.out.drew, nofun, nofun, nofun, nofun⟩, nofun, nofun, nofun, nofun, nofun⟩, (Below.refl _ _).drew, nofun, nofun, nofun⟩
        · intro L az wz iz hiz hni hI hdep hcl
          obtain ⟨v9, v27, v28, v29, v30, v31, v32, v33, rfl, hN, hV, h0, h2, h3⟩ := hI
          have hcase : iz = 0 ∨ iz = 1 ∨ iz = 2 ∨ iz = 3 ∨ iz = 4 ∨ iz = 5 ∨ iz = 6 ∨ iz = 7 := by
            have hi2 : iz < 8 := hiz
            omega
          rcases hcase with rfl | rfl | rfl | rfl | rfl | rfl | rfl | rfl
          · -- 0
            obtain ⟨g, c, gM, b, hN, k1, k4, k5, k6, k7⟩ := hN
            refine wpOp_step rfl fun Kz hKz => ?_
            go_simp
            exact hKz _ _ ⟨_, _, _, _, _, _, _, _, rfl, ⟨g, c, gM, b, hN.mono (fun e => add_ne e (by decide)) (fun e => add_ne e (by decide)) (fun e => add_ne e (by decide)), fun e => k1 (add_ne e (by decide)), fun e => k4 (add_ne e (by decide)), fun e => k5 (add_ne e (by decide)), fun e => k6 (add_ne e (by decide)), fun e => k7 (add_ne e (by decide))⟩, hV, fun _ => rfl, fun e => h2 (add_ne e (by decide)), fun e => h3 (add_ne e (by decide))⟩
          · -- 1
            obtain ⟨g, c, gM, b, hN, k1, k4, k5, k6, k7⟩ := hN
            have e0 := h0 (hdep 0 (by decide +kernel))
            subst e0
            have hcc := (clone_any pb poff l.nc cap cs wz (hT2.out.kept (show Below v.heap.size v wz from hV)) h1 (by omega)).mono fun e w' hc => Cloned.tab (hlen.out ▸ hc) hz.out (by have := hlen.out; omega)
            replace hcc := Lib.hid hcc
            refine wpOp_step rfl fun Kz hKz => ?_
            go_simp
            go_at_call 73
            refine (hcc.out).mono ?_
            rintro e w1 ⟨g', c', rfl, hT', hg', hg2', hb1⟩
            have hN2 : NWS w cs l.nm lb true (L 4) (L 6) g' c' gM b w1 := ⟨(hN.on hb1).blw, fun _ => ⟨hT', Nat.le_trans hN.blw.size hg', hg2'⟩, (hN.on hb1).m, fun _ e => by have := obj_lt (hN.m e).1; omega, fun e => absurd (hcl 5 (hcl 6 e 5 (by decide +kernel)) 1 (by decide +kernel)) (by rw [hni]; decide)⟩
            replace hN2 := Lib.hid hN2
            replace hT' := Lib.hid hT'
            go_simp
            exact hKz _ _ ⟨_, _, _, _, _, _, _, _, rfl, ⟨g', c', gM, b, hN2.out.mono (fun _ => rfl) (fun e => add_ne e (by decide)) (fun e => add_ne e (by decide)), fun _ => rfl, fun e => k4 (add_ne e (by decide)), fun e => absurd (hcl 5 (add_ne e (by decide)) 1 (by decide +kernel)) (by rw [hni]; decide), fun e => k6 (add_ne e (by decide)), fun e => k7 (add_ne e (by decide))⟩, hV.trans (hb1.mono hV.size), fun e => h0 (add_ne e (by decide)), fun e => h2 (add_ne e (by decide)), fun e => h3 (add_ne e (by decide))⟩
          · -- 2
            obtain ⟨g, c, gM, b, hN, k1, k4, k5, k6, k7⟩ := hN
            refine wpOp_step rfl fun Kz hKz => ?_
            go_simp
            exact hKz _ _ ⟨_, _, _, _, _, _, _, _, rfl, ⟨g, c, gM, b, hN.mono (fun e => add_ne e (by decide)) (fun e => add_ne e (by decide)) (fun e => add_ne e (by decide)), fun e => k1 (add_ne e (by decide)), fun e => k4 (add_ne e (by decide)), fun e => k5 (add_ne e (by decide)), fun e => k6 (add_ne e (by decide)), fun e => k7 (add_ne e (by decide))⟩, hV, fun e => h0 (add_ne e (by decide)), fun _ => rfl, fun e => h3 (add_ne e (by decide))⟩
          · -- 3
            obtain ⟨g, c, gM, b, hN, k1, k4, k5, k6, k7⟩ := hN
            refine wpOp_step rfl fun Kz hKz => ?_
            go_simp
            exact hKz _ _ ⟨_, _, _, _, _, _, _, _, rfl, ⟨g, c, gM, b, hN.mono (fun e => add_ne e (by decide)) (fun e => add_ne e (by decide)) (fun e => add_ne e (by decide)), fun e => k1 (add_ne e (by decide)), fun e => k4 (add_ne e (by decide)), fun e => k5 (add_ne e (by decide)), fun e => k6 (add_ne e (by decide)), fun e => k7 (add_ne e (by decide))⟩, hV, fun e => h0 (add_ne e (by decide)), fun e => h2 (add_ne e (by decide)), fun _ => rfl⟩
          · -- 4
            obtain ⟨g, c, gM, b, hN, k1, k4, k5, k6, k7⟩ := hN
            have e3 := h3 (hdep 3 (by decide +kernel))
            subst e3
            have hmk := make_standings l.nm (by omega) wz
            have hbb : Below wz.heap.size wz (wz.alloc (.cells (zst l.nm) 137)) := (Below.refl _ _).alloc (Nat.le_refl _) _
            have hN2 : NWS w cs l.nm lb (L 1) true (L 6) g c wz.heap.size b (wz.alloc (.cells (zst l.nm) 137)) := ⟨(hN.on hbb).blw, (hN.on hbb).t, fun _ => ⟨heap_alloc_new _ _, hN.blw.size⟩, fun e _ => by have := (hN.t e).2.2; omega, fun e => absurd (hcl 5 (hcl 6 e 5 (by decide +kernel)) 4 (by decide +kernel)) (by rw [hni]; decide)⟩
            replace hN2 := Lib.hid hN2
            replace hbb := Lib.hid hbb
            refine wpOp_step rfl fun Kz hKz => ?_
            go_simp
            exact hKz _ _ ⟨_, _, _, _, _, _, _, _, rfl, ⟨g, c, wz.heap.size, b, hN2.out.mono (fun e => add_ne e (by decide)) (fun _ => rfl) (fun e => add_ne e (by decide)), fun e => k1 (add_ne e (by decide)), fun _ => rfl, fun e => absurd (hcl 5 (add_ne e (by decide)) 4 (by decide +kernel)) (by rw [hni]; decide), fun e => k6 (add_ne e (by decide)), fun e => k7 (add_ne e (by decide))⟩, hV.trans (hbb.out.mono hV.size), fun e => h0 (add_ne e (by decide)), fun e => h2 (add_ne e (by decide)), fun e => h3 (add_ne e (by decide))⟩
          · -- 5
            obtain ⟨g, c, gM, b, hN, k1, k4, k5, k6, k7⟩ := hN
            have e1 := k1 (hdep 1 (by decide +kernel))
            have e4 := k4 (hdep 4 (by decide +kernel))
            subst e1
            subst e4
            have e2 := h2 (hdep 2 (by decide +kernel))
            subst e2
            refine wpOp_step rfl fun Kz hKz => ?_
            go_simp
            exact hKz _ _ ⟨_, _, _, _, _, _, _, _, rfl, ⟨g, c, gM, b, hN.mono (fun e => add_ne e (by decide)) (fun e => add_ne e (by decide)) (fun e => add_ne e (by decide)), fun _ => rfl, fun _ => rfl, fun _ => rfl, fun e => k6 (add_ne e (by decide)), fun e => k7 (add_ne e (by decide))⟩, hV, fun e => h0 (add_ne e (by decide)), fun e => h2 (add_ne e (by decide)), fun e => h3 (add_ne e (by decide))⟩
          · -- 6
            obtain ⟨g, c, gM, b, hN, k1, k4, k5, k6, k7⟩ := hN
            have e5 := k5 (hdep 5 (by decide +kernel))
            subst e5
            have hbb : Below wz.heap.size wz (wz.alloc (.cells #[.slice (some ⟨g, 0, none⟩) cs.length c, .pointer (some ⟨lb, 0, none⟩), .slice (some ⟨gM, 0, none⟩) l.nm l.nm] 141)) := (Below.refl _ _).alloc (Nat.le_refl _) _
            have hN2 : NWS w cs l.nm lb (L 1) (L 4) true g c gM wz.heap.size (wz.alloc (.cells #[.slice (some ⟨g, 0, none⟩) cs.length c, .pointer (some ⟨lb, 0, none⟩), .slice (some ⟨gM, 0, none⟩) l.nm l.nm] 141)) := ⟨(hN.on hbb).blw, (hN.on hbb).t, (hN.on hbb).m, hN.a, fun _ => ⟨heap_alloc_new _ _, hN.blw.size⟩⟩
            replace hN2 := Lib.hid hN2
            replace hbb := Lib.hid hbb
            refine wpOp_step rfl fun Kz hKz => ?_
            go_simp
            exact hKz _ _ ⟨_, _, _, _, _, _, _, _, rfl, ⟨g, c, gM, wz.heap.size, hN2.out.mono (fun e => add_ne e (by decide)) (fun e => add_ne e (by decide)) (fun _ => rfl), fun e => k1 (add_ne e (by decide)), fun e => k4 (add_ne e (by decide)), fun _ => rfl, fun _ => rfl, fun e => absurd (hcl 7 (add_ne e (by decide)) 6 (by decide +kernel)) (by rw [hni]; decide)⟩, hV.trans (hbb.out.mono hV.size), fun e => h0 (add_ne e (by decide)), fun e => h2 (add_ne e (by decide)), fun e => h3 (add_ne e (by decide))⟩
          · -- 7
            obtain ⟨g, c, gM, b, hN, k1, k4, k5, k6, k7⟩ := hN
            have e6 := k6 (hdep 6 (by decide +kernel))
            subst e6
            refine wpOp_step rfl fun Kz hKz => ?_
            go_simp
            exact hKz _ _ ⟨_, _, _, _, _, _, _, _, rfl, ⟨g, c, gM, b, hN.mono (fun e => add_ne e (by decide)) (fun e => add_ne e (by decide)) (fun e => add_ne e (by decide)), fun e => k1 (add_ne e (by decide)), fun e => k4 (add_ne e (by decide)), fun e => k5 (add_ne e (by decide)), fun _ => rfl, fun _ => rfl⟩, hV, fun e => h0 (add_ne e (by decide)), fun e => h2 (add_ne e (by decide)), fun e => h3 (add_ne e (by decide))⟩
        · intro L az wz hI hL
          obtain ⟨v9, v27, v28, v29, v30, v31, v32, v33, rfl, hN, hV, h0, h2, h3⟩ := hI
          obtain ⟨g, c, gM, b, hN, k1, k4, k5, k6, k7⟩ := hN
          refine hK1 _ _ (Met.intro (hJ1 _ _ ?_))
          (repeat apply Exists.intro)
          refine ⟨?rel, rfl⟩
          case rel => exact ⟨g, c, gM, b, k7 (hL 7 (by decide)), by have := hN; rw [hL 1 (by decide), hL 4 (by decide), hL 6 (by decide)] at this; exact this⟩
      case rest =>
        obtain ⟨g, c, gM, b, rfl, hN⟩ := hcut
        have hS0 := Lib.hid (hN.out.done hg.out rfl hc.out)
        go_upto_region 11 with (fail)
        go_loopw [35] (fun i wr => ∃ (k : Nat) (V : Nat → SV), k ≤ l.nm ∧ i = .int .i64 (k : Int) ∧ Hid (NWL w b lb (WM.new cs l) k V g c gM l.nm wr)) (fun i _ => l.nm - (intOf i).toNat)
        case atStart => exact ⟨0, _, by omega, rfl, hS0⟩
        case round =>
          obtain ⟨k, V, hk, rfl, hS⟩ := hrel
          by_cases hkl : k < l.nm
          · have hkz : (k : Int) < (l.nm : Int) := by omega
            have hM := moved_v (PF := fun j => j = lb ∨ j = gB) k wr (hL.out.only.below hS.out.blw) hS.out.ws (fun j hj hw => by rcases hj with rfl | rfl <;> omega) hkl (fun c => get_in hg.out _ _)
            replace hM := Lib.hid hM
            go_wp2_with (first | (go_at_call 45; (with_reducible refine hM.out.mono ?_); rintro e w3 ⟨rfl, hM3, hK3⟩; have hS3 := Lib.hid (hS.out.step hM3 hK3); replace hM3 := Lib.hid hM3; replace hK3 := Lib.hid hK3))
            go_roundw
            case rel => exact ⟨k + 1, _, by omega, by go_num, hS3⟩
            case measure => simp [intOf]; omega
          · obtain rfl : k = l.nm := by omega
            have hkz : ¬ (l.nm : Int) < (l.nm : Int) := by omega
            go_wp2_with fail
            go_ret2
            exact ⟨fun e => absurd hc.out e, fun _ e => absurd hlen.out e, fun _ _ => ⟨b, rfl, g, c, gM, l.nm, hS.out.ws.tot (y := WM.new cs l) (Kp.refl _ _) (hS.out.ws.rows.congr fun m hm => hS.out.got m hm) rfl rfl hS.out.ws.in64⟩, hS.out.blw⟩
    · have h1 := (chk_ok hc).1
      have hnz : ¬ (l.nc : Int) = (len : Int) := by omega
      have hnz2 : ((l.nc : Int) != (len : Int)) = true := by simpa using hnz
      have hne : cs.length ≠ l.nc := by omega
      replace hC := Lib.hid hC
      replace hT := Lib.hid hT
      replace hL := Lib.hid hL
      replace hg := Lib.hid hg
      replace hc := Lib.hid hc
      go_enter Tryz.func48, Tryz.ntmps48
      go_upto_region 6 with (first | (go_at_call 72; (with_reducible refine hC.out.mono ?_); rintro e w1 ⟨rfl, hb1⟩))
      have hS := psize_any w1 (hL.out.below hb1)
      replace hS := Lib.hid hS
      replace hb1 := Lib.hid hb1
      go_wp2_with (first | (go_at_call 27; (with_reducible refine hS.out.mono ?_); rintro e w2 ⟨rfl, nd, rfl⟩))
      go_ret2
      exact ⟨fun e => absurd hc.out e, fun _ _ => rfl, fun _ e => absurd e hne, below_drewN hb1.out nd⟩
  · obtain ⟨n, hn⟩ : ∃ n, chkT cs = n := ⟨_, rfl⟩
    unfold NewW
    rw [hn] at hC hc ⊢
    have hcz : (n != 0) = true := by simpa using hc
    replace hC := Lib.hid hC
    replace hT := Lib.hid hT
    replace hL := Lib.hid hL
    replace hg := Lib.hid hg
    replace hc := Lib.hid hc
    go_enter Tryz.func48, Tryz.ntmps48
    go_wp2_with (first | (go_at_call 72; (with_reducible refine hC.out.mono ?_); rintro e w1 ⟨rfl, hb1⟩; replace hb1 := Lib.hid hb1))
    go_ret2
    exact ⟨fun _ => rfl, fun e => absurd e hc.out, fun e => absurd e hc.out, hb1.out⟩
end Go.Proofs.YtiehbbhjpcnbnaaGreat
