/- The reference's ledger in memory; the contracts of its Has, Get, Out. -/
import Derived.Test.YtljclgphgojphaaGreatR8
import Derived.Test.YtljclgphgojphaaGreatB2
import Derived.Test.YtljclgphgojphaaGreatW0
import Derived.Test.YtljclgphgojphaaGreatLG1
import Derived.Laws.CopyOwn
namespace Go.Proofs.YtljclgphgojphaaGreat
open Go.RowKit
set_option linter.unusedVariables false

/-- a row of amounts -/
def IR (w : World) (g : Nat) (f : Nat → Int) (n : Nat) : Prop := ∃ cs, w.heap[g]? = some (.cells cs 2 (0, 0)) ∧ ∀ i, i < n → cs[i]? = some (.int .i64 (f i))
theorem IR.lt {w : World} {g n : Nat} {f : Nat → Int} (h : IR w g f n) : g < w.heap.size := by obtain ⟨cs, h, _⟩ := h; exact obj_lt h
theorem IR.cell {w : World} {g n i : Nat} {f : Nat → Int} (h : IR w g f n) (hi : i < n) : w.cell? ⟨g, i, none⟩ = some (.int .i64 (f i)) := by obtain ⟨cs, h1, h2⟩ := h; exact obj_cell h1 (h2 i hi)
theorem IR.free {w : World} {g n : Nat} {f : Nat → Int} (h : IR w g f n) (i : Nat) : w.frozen? ⟨g, i, none⟩ = false := by obtain ⟨cs, h1, h2⟩ := h; exact obj_free h1 i
theorem IR.at {w w' : World} {g n : Nat} {f : Nat → Int} (h : IR w g f n) (hb : w'.heap[g]? = w.heap[g]?) : IR w' g f n := by obtain ⟨cs, h1, h2⟩ := h; exact ⟨cs, hb.trans h1, h2⟩
theorem IR.set {w : World} {g n j : Nat} {f : Nat → Int} (h : IR w g f n) (hj : j < n) (x : Int) : IR (w.setCell ⟨g, j, none⟩ (.int .i64 x)) g (upd f j x) n := by
  obtain ⟨cs, h1, h2⟩ := h
  refine ⟨_, obj_set h1 j _, fun i hi => ?_⟩
  by_cases e : i = j
  · subst e
    have := (Array.getElem?_eq_some_iff.1 (h2 i hi)).1
    rw [upd_same, Array.getElem?_setIfInBounds_self_of_lt this]
  · rw [upd_other _ _ e, Array.getElem?_setIfInBounds_ne (Ne.symm e)]
    exact h2 i hi
theorem IR.congr {w : World} {g n : Nat} {f k : Nat → Int} (h : IR w g f n) (e : ∀ i, i < n → f i = k i) : IR w g k n := by obtain ⟨cs, h1, h2⟩ := h; exact ⟨cs, h1, fun i hi => by rw [← e i hi]; exact h2 i hi⟩
/-- the reference's ledger, by its blocks -/
structure RLv (P : Nat → Prop) (w : World) (b : Nat) (l : LM) (gB cB gN cN : Nat) (g cp : Nat → Nat) : Prop where
  obj : w.heap[b]? = some (.cells #[.slice (some ⟨gB, 0, none⟩) l.nm cB, .slice (some ⟨gN, 0, none⟩) l.nc cN] 77 (0, 0))
  rows : ∃ cs, w.heap[gB]? = some (.cells cs 62 (0, 0)) ∧ ∀ m, m < l.nm → cs[m]? = some (.slice (some ⟨g m, 0, none⟩) l.nc (cp m))
  nos : IR w gN l.N l.nc
  bal : ∀ m, m < l.nm → IR w (g m) (l.B m) l.nc
  apart : ∀ m, m < l.nm → g m ≠ gN ∧ ∀ k, k < l.nm → k ≠ m → g k ≠ g m
  own : P b ∧ P gB ∧ P gN ∧ ∀ m, m < l.nm → P (g m)
def RL (P : Nat → Prop) (w : World) (b : Nat) (l : LM) : Prop := ∃ gB cB gN cN g cp, RLv P w b l gB cB gN cN g cp
section
variable {P : Nat → Prop} {w w' : World} {b gB cB gN cN : Nat} {l : LM} {g cp : Nat → Nat}
theorem RLv.kept (h : RLv P w b l gB cB gN cN g cp) (hb : ∀ j, j < w.heap.size → P j → w'.heap[j]? = w.heap[j]?) : RLv P w' b l gB cB gN cN g cp := by
  obtain ⟨cs, h1, h2⟩ := h.rows
  exact ⟨(hb _ (obj_lt h.obj) h.own.1).trans h.obj, ⟨cs, (hb _ (obj_lt h1) h.own.2.1).trans h1, h2⟩, h.nos.at (hb _ h.nos.lt h.own.2.2.1), fun m hm => (h.bal m hm).at (hb _ (h.bal m hm).lt (h.own.2.2.2 m hm)), h.apart, h.own⟩
theorem RLv.below (h : RLv P w b l gB cB gN cN g cp) (hb : Below w.heap.size w w') : RLv P w' b l gB cB gN cN g cp := h.kept fun j hj _ => hb.block j hj
theorem RLv.row (h : RLv P w b l gB cB gN cN g cp) {m : Nat} (hm : m < l.nm) : w.cell? ⟨gB, m, none⟩ = some (.slice (some ⟨g m, 0, none⟩) l.nc (cp m)) := by obtain ⟨cs, h1, h2⟩ := h.rows; exact obj_cell h1 (h2 m hm)
theorem RLv.c0 (h : RLv P w b l gB cB gN cN g cp) : w.cell? ⟨b, 0, none⟩ = some (.slice (some ⟨gB, 0, none⟩) l.nm cB) := obj_cell h.obj rfl
theorem RLv.c1 (h : RLv P w b l gB cB gN cN g cp) : w.cell? ⟨b, 1, none⟩ = some (.slice (some ⟨gN, 0, none⟩) l.nc cN) := obj_cell h.obj rfl
/-- blocks of other kinds are others -/
theorem ty_ne {w : World} {x y : Nat} {cs ds : Array Value} {t u : TypeId} {fr fs : Nat × Nat} (hx : w.heap[x]? = some (.cells cs t fr)) (hy : w.heap[y]? = some (.cells ds u fs)) (h : t ≠ u) : x ≠ y := by
  rintro rfl
  rw [hx] at hy
  injection hy with hy
  injection hy with _ hy _
  exact h hy
/-- another balance -/
theorem RLv.setB (h : RLv P w b l gB cB gN cN g cp) {m c : Nat} (hm : m < l.nm) (hc : c < l.nc) (x : Int) : RLv P (w.setCell ⟨g m, c, none⟩ (.int .i64 x)) b ⟨l.nm, l.nc, upd2 l.B m c x, l.N⟩ gB cB gN cN g cp := by
  obtain ⟨cs, h1, h2⟩ := h.rows
  obtain ⟨ds, d1, d2⟩ := h.bal m hm
  refine ⟨(obj_other _ (ty_ne h.obj d1 (by decide))).trans h.obj, ⟨cs, (obj_other _ (ty_ne h1 d1 (by decide))).trans h1, h2⟩, h.nos.at (obj_other _ (Ne.symm (h.apart m hm).1)), fun k hk => ?_, h.apart, h.own⟩
  by_cases e : k = m
  · subst e
    refine ((h.bal k hm).set hc x).congr fun i hi => ?_
    show upd (l.B k) c x i = upd2 l.B k c x k i
    unfold upd upd2
    by_cases e : i = c
    · rw [if_pos e, if_pos ⟨rfl, e⟩]
    · rw [if_neg e, if_neg (fun h => e h.2)]
  · refine ((h.bal k hk).at (obj_other _ ((h.apart m hm).2 k hk e))).congr fun i hi => ?_
    exact (upd2_other l.B x (fun h => e h.1)).symm
/-- another nostro -/
theorem RLv.setN (h : RLv P w b l gB cB gN cN g cp) {c : Nat} (hc : c < l.nc) (x : Int) : RLv P (w.setCell ⟨gN, c, none⟩ (.int .i64 x)) b ⟨l.nm, l.nc, l.B, upd l.N c x⟩ gB cB gN cN g cp := by
  obtain ⟨cs, h1, h2⟩ := h.rows
  obtain ⟨ds, d1, d2⟩ := h.nos
  exact ⟨(obj_other _ (ty_ne h.obj d1 (by decide))).trans h.obj, ⟨cs, (obj_other _ (ty_ne h1 d1 (by decide))).trans h1, h2⟩, h.nos.set hc x, fun k hk => (h.bal k hk).at (obj_other _ (h.apart k hk).1), h.apart, h.own⟩
theorem RLv.drewN (h : RLv P w b l gB cB gN cN g cp) (n : Nat) : RLv P (w.drewN n) b l gB cB gN cN g cp := h.kept fun _ _ _ => rfl
end

set_option maxHeartbeats 2000000 in
set_option maxRecDepth 100000 in
theorem hasRL_any {P : Nat → Prop} {b : Nat} {l : LM} {gB cB gN cN : Nat} {g cp : Nat → Nat} (m c : Int) (w : World) (h : RLv P w b l gB cB gN cN g cp) :
    Calls Tryz.prog 46 #[.pointer (some ⟨b, 0, none⟩), .int .i64 m, .int .i64 c] w fun e w' => e = .returned (.bool (l.has m c)) ∧ w = w' := by
  have c0 := h.c0
  have c1 := h.c1
  have hi := @LM.has_iff l m c
  clear h
  by_cases h1 : 0 ≤ m
  · by_cases h2 : m < (l.nm : Int)
    · by_cases h3 : 0 ≤ c
      · by_cases h4 : c < (l.nc : Int)
        · have e : l.has m c = true := hi.2 ⟨h1, h2, h3, h4⟩
          rw [e]
          clear hi
          go_enter Tryz.func46, Tryz.ntmps46
          go_wp2_with fail
          go_ret
          exact ⟨rfl, rfl⟩
        · have e : l.has m c = false := by unfold LM.has; simp; omega
          rw [e]
          clear hi
          go_enter Tryz.func46, Tryz.ntmps46
          go_wp2_with fail
          go_ret
          exact ⟨rfl, rfl⟩
      · have e : l.has m c = false := by unfold LM.has; simp; omega
        rw [e]
        clear hi
        go_enter Tryz.func46, Tryz.ntmps46
        go_wp2_with fail
        go_ret
        exact ⟨rfl, rfl⟩
    · have e : l.has m c = false := by unfold LM.has; simp; omega
      rw [e]
      clear hi
      go_enter Tryz.func46, Tryz.ntmps46
      go_wp2_with fail
      go_ret
      exact ⟨rfl, rfl⟩
  · have e : l.has m c = false := by unfold LM.has; simp; omega
    rw [e]
    clear hi
    go_enter Tryz.func46, Tryz.ntmps46
    go_wp2_with fail
    go_ret
    exact ⟨rfl, rfl⟩

/-- what a call makes of the reference's ledger -/
def RDid (P : Nat → Prop) (b : Nat) (r : Int × LM) (w : World) (e : Ending) (w' : World) : Prop := e = .returned (.int .i64 r.1) ∧ RL P w' b r.2 ∧ Kp P w w'
theorem RL.of {P : Nat → Prop} {w : World} {b : Nat} {l : LM} {gB cB gN cN : Nat} {g cp : Nat → Nat} (h : RLv P w b l gB cB gN cN g cp) : RL P w b l := ⟨gB, cB, gN, cN, g, cp, h⟩

set_option maxHeartbeats 4000000 in
set_option maxRecDepth 100000 in
theorem outRL_any {P : Nat → Prop} {b : Nat} {l : LM} (m c a : Int) (w : World) (h0 : RL P w b l) (hl : l.Ok) (ha : In64 a) :
    Calls Tryz.prog 50 #[.pointer (some ⟨b, 0, none⟩), .int .i64 m, .int .i64 c, .int .i64 a] w (RDid P b (l.out m c a) w) := by
  obtain ⟨gB, cB, gN, cN, g, cp, h⟩ := h0
  have hH := hasRL_any m c w h
  have hsame : RDid P b (1, l) w (.returned (.int .i64 1)) w := ⟨rfl, RL.of h, Kp.refl _ _⟩
  unfold LM.out
  cases hh : l.has m c with
  | false =>
    rw [if_neg (by simp)]
    rw [hh] at hH
    replace hH := Lib.hid hH
    replace hh := Lib.hid hh
    replace hsame := Lib.hid hsame
    clear h hl
    go_enter Tryz.func50, Tryz.ntmps50
    go_wp2_with (first | (go_at_call 46; (refine hH.out.mono ?_); rintro e z ⟨rfl, rfl⟩))
    go_ret
    exact hsame.out
  | true =>
    rw [hh] at hH
    replace hH := Lib.hid hH
    by_cases h1 : a < 1
    · rw [if_neg (by omega)]
      replace hh := Lib.hid hh
      replace hsame := Lib.hid hsame
      clear h hl
      go_enter Tryz.func50, Tryz.ntmps50
      go_wp2_with (first | (go_at_call 46; (refine hH.out.mono ?_); rintro e z ⟨rfl, rfl⟩))
      go_ret
      exact hsame.out
    · rw [if_pos ⟨rfl, by omega⟩]
      obtain ⟨i, j, rfl, rfl, hi, hj⟩ := LM.has_nat hh
      simp only [Int.toNat_natCast]
      have c0 := h.c0
      have c1 := h.c1
      have r0 := h.row hi
      have x0 := (h.bal i hi).cell hj
      have n0 := h.nos.cell hj
      have hiz : (i : Int) < (l.nm : Int) := by omega
      have hjz : (j : Int) < (l.nc : Int) := by omega
      have hb0 := hl.b i j
      have hn0 := hl.n j
      unfold In64 at hb0 hn0 ha
      by_cases h2 : l.B i j < a
      · have hR : RDid P b (10, l) w (.returned (.int .i64 10)) w := ⟨rfl, RL.of h, Kp.refl _ _⟩
        rw [if_pos (.inl h2)]
        replace hR := Lib.hid hR
        replace hh := Lib.hid hh
        replace hsame := Lib.hid hsame
        replace h := Lib.hid h
        go_enter Tryz.func50, Tryz.ntmps50
        go_wp2_with (first | (go_at_call 46; (refine hH.out.mono ?_); rintro e z ⟨rfl, rfl⟩))
        go_ret
        exact hR.out
      · by_cases h3 : l.N j < a
        · have hR : RDid P b (10, l) w (.returned (.int .i64 10)) w := ⟨rfl, RL.of h, Kp.refl _ _⟩
          rw [if_pos (.inr h3)]
          replace hR := Lib.hid hR
          replace hh := Lib.hid hh
          replace hsame := Lib.hid hsame
          replace h := Lib.hid h
          go_enter Tryz.func50, Tryz.ntmps50
          go_wp2_with (first | (go_at_call 46; (refine hH.out.mono ?_); rintro e z ⟨rfl, rfl⟩))
          go_ret
          exact hR.out
        · rw [if_neg (by omega)]
          have f0 := (h.bal i hi).free j
          have hB1 : RLv P ((w.setCell ⟨g i, j, none⟩ (.int .i64 (l.B i j - a))).drew) b ⟨l.nm, l.nc, upd2 l.B i j (l.B i j - a), l.N⟩ gB cB gN cN g cp := (h.setB hi hj _).drewN 1
          have hK1 : Kp P w ((w.setCell ⟨g i, j, none⟩ (.int .i64 (l.B i j - a))).drew) := ((Kp.refl P w).setCell (.inl (h.own.2.2.2 i hi)) _).drew
          replace hh := Lib.hid hh
          replace hsame := Lib.hid hsame
          replace h := Lib.hid h
          go_enter Tryz.func50, Tryz.ntmps50
          go_upto_region 5 with (first | (go_at_call 46; (refine hH.out.mono ?_); rintro e z ⟨rfl, rfl⟩))
          go_still_tail 21, (by kernel_rfl)
          change wpList _ _ _ _ _ (World.drew _)
          go_upto_region 6 with (fail)
          generalize (w.setCell ⟨g i, j, none⟩ (.int .i64 (l.B i j - a))).drew = W1 at *
          have d1 := hB1.c1
          have m0 := hB1.nos.cell hj
          have g0 := hB1.nos.free j
          have hB2 : RLv P ((W1.setCell ⟨gN, j, none⟩ (.int .i64 (l.N j - a))).drew) b ⟨l.nm, l.nc, upd2 l.B i j (l.B i j - a), upd l.N j (l.N j - a)⟩ gB cB gN cN g cp := (hB1.setN hj _).drewN 1
          have hK2 : Kp P w ((W1.setCell ⟨gN, j, none⟩ (.int .i64 (l.N j - a))).drew) := (hK1.setCell (.inl hB1.own.2.2.1) _).drew
          replace hB1 := Lib.hid hB1
          replace hK1 := Lib.hid hK1
          replace hB2 := Lib.hid hB2
          replace hK2 := Lib.hid hK2
          go_still_tail 15, (by kernel_rfl)
          change wpList _ _ _ _ _ (World.drew _)
          go_wp2_with fail
          go_ret
          exact ⟨rfl, RL.of hB2.out, hK2.out⟩
end Go.Proofs.YtljclgphgojphaaGreat
