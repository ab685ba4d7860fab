/- Limits that are widened. -/
import Derived.Test.YtljclgphgojphaaGP
namespace Go.Proofs.Ytljclgphgojphaa
open Go.RowKit
set_option linter.unusedVariables false

def mx (x : Int) : Int := max x 4611686018427387904
theorem mx_ge (x : Int) : x ≤ mx x := by unfold mx; omega
theorem mx_pos (x : Int) : 0 ≤ mx x := by unfold mx; omega
theorem mx_in {x : Int} (h : In64 x) : In64 (mx x) := by unfold mx In64 at *; omega
def cellsL (ws : List LV) : List Value := ws.flatMap fun x => [.slice x.p x.n x.cap, .int .i64 x.all]
theorem cellsL_len (ws : List LV) : (cellsL ws).length = ws.length * 2 := by
  unfold cellsL
  induction ws with
  | nil => rfl
  | cons x ws ih => rw [List.flatMap_cons, List.length_append, ih]; simp; omega
theorem cellsL_app (ws : List LV) (x : LV) : cellsL (ws ++ [x]) = cellsL ws ++ [.slice x.p x.n x.cap, .int .i64 x.all] := by unfold cellsL; simp
theorem cellsL_at {ws : List LV} {i : Nat} {x : LV} (h : ws[i]? = some x) : (cellsL ws)[i * 2]? = some (.slice x.p x.n x.cap) ∧ (cellsL ws)[i * 2 + 1]? = some (.int .i64 x.all) := by
  induction ws generalizing i with
  | nil => simp at h
  | cons y ws ih =>
    have e : cellsL (y :: ws) = .slice y.p y.n y.cap :: .int .i64 y.all :: cellsL ws := by unfold cellsL; rfl
    rw [e]
    cases i with
    | zero => injection h with h; subst h; exact ⟨rfl, rfl⟩
    | succ i =>
      obtain ⟨h1, h2⟩ := ih (i := i) (by simpa using h)
      rw [show (i + 1) * 2 = i * 2 + 2 by omega]
      exact ⟨by simpa using h1, by simpa using h2⟩
/-- the wide limit of a limit -/
structure Wd (y x : LV) : Prop where
  xs : x.xs = y.xs.map mx
  all : x.all = mx y.all
  n : x.n = y.n
theorem limsOk_wide {ls ws : List LV} {nm nc : Nat} (hl : ws.length = ls.length) (h : ∀ (i : Nat) (x : LV), ws[i]? = some x → ∃ y, ls[i]? = some y ∧ Wd y x) (hk : limsOk ls nm nc = true) : limsOk ws nm nc = true := by
  unfold limsOk at hk
  simp only [Bool.and_eq_true, decide_eq_true_eq, List.all_eq_true] at hk
  refine limsOk_yes (hl.trans hk.1) fun k v hv => ?_
  obtain ⟨y, hy, hw⟩ := h k v hv
  have h1 := hk.2 y (List.mem_of_getElem? hy)
  unfold okV at h1 ⊢
  simp only [Bool.and_eq_true, decide_eq_true_eq, Bool.not_eq_true', decide_eq_false_iff_not] at h1 ⊢
  refine ⟨⟨hw.n.trans h1.1.1, ?_⟩, by rw [hw.all]; have := mx_pos y.all; omega⟩
  rw [hw.xs]
  unfold negB
  rw [List.any_eq_false]
  intro x hx
  obtain ⟨z, _, rfl⟩ := List.mem_map.1 hx
  have := mx_pos z
  simp; omega
theorem LimM_wide {ls ws : List LV} (h : ∀ (i : Nat) (x : LV), ws[i]? = some x → ∃ y, ls[i]? = some y ∧ Wd y x) (hl : ws.length = ls.length) (m : Nat) : (∀ c, (LimM ls m).sh c ≤ (LimM ws m).sh c) ∧ (LimM ls m).all ≤ (LimM ws m).all := by
  cases hv : ws[m]? with
  | none =>
    have hy : ls[m]? = none := by rw [List.getElem?_eq_none_iff] at hv ⊢; omega
    unfold LimM; rw [hv, hy]
    exact ⟨fun _ => Int.le_refl _, Int.le_refl _⟩
  | some x =>
    obtain ⟨y, hy, hw⟩ := h m x hv
    rw [LimM_at hv, LimM_at hy]
    refine ⟨fun c => ?_, by show y.all ≤ x.all; rw [hw.all]; exact mx_ge _⟩
    show y.xs.getD c 0 ≤ x.xs.getD c 0
    rw [hw.xs]
    by_cases hc : c < y.xs.length
    · rw [List.getD_eq_getElem?_getD, List.getD_eq_getElem?_getD, List.getElem?_map, List.getElem?_eq_getElem hc]
      exact mx_ge _
    · rw [List.getD_eq_getElem?_getD, List.getD_eq_getElem?_getD, List.getElem?_map, List.getElem?_eq_none (by omega)]
      exact Int.le_refl _

/-- a row of limits that grows -/
def OwnL (B : Nat) (w : World) (v : Value) (ws : List LV) : Prop := w.ownsRow B 29 2 v ws.length (cellsL ws)
theorem OwnL.block {B : Nat} {w w' : World} {v : Value} {l : List LV} (h : OwnL B w v l) (hb : ∀ g, v.ownBlock = some g → w'.heap[g]? = w.heap[g]?) : OwnL B w' v l := by
  obtain ⟨hlen, h⟩ := h
  refine ⟨hlen, h.imp id ?_⟩
  rintro ⟨g, cap, cur, rfl, hg, hh, r⟩
  exact ⟨g, cap, cur, rfl, hg, (hb g rfl).trans hh, r⟩
theorem OwnL.lt {B : Nat} {w : World} {v : Value} {l : List LV} (h : OwnL B w v l) : ∀ k, v.ownBlock = some k → B ≤ k ∧ k < w.heap.size := World.ownsRow.lt h
theorem OwnL.shape {B : Nat} {w : World} {v : Value} {l : List LV} (h : OwnL B w v l) : ∃ p cap, v = .slice p l.length cap := by
  rcases h.2 with ⟨rfl, h0⟩ | ⟨g, cap, cur, rfl, _⟩
  · exact ⟨none, 0, by rw [h0]⟩
  · exact ⟨_, cap, rfl⟩
theorem OwnL.nil (B : Nat) (w : World) : OwnL B w (.slice none 0 0) [] := World.ownsRow_nil w B 29 2
theorem OwnI.nil (B : Nat) (w : World) : OwnI B w (.slice none 0 0) [] := World.ownsRow_nil w B 2 1
set_option maxRecDepth 100000 in
theorem appL_run (w : World) (B : Nat) (v : Value) (l : List LV) (hown : OwnL B w v l) (hB : B ≤ w.heap.size) (a : Addr) (x : LV) (hx : w.cell? (a.add 0) = some (.slice x.p x.n x.cap)) (hx1 : w.cell? (a.add 1) = some (.int .i64 x.all)) (hn : l.length + 1 ≤ 1000) :
    ∃ v' w', (Builtin.append_ #[23, 23] 23 #[v, .slice (some a) 1 1]).run Try.prog w = .ok v' w' ∧ OwnL B w' v' (l ++ [x]) ∧ w.grownBy w' v.ownBlock := by
  obtain ⟨i0, hi, hz0, hz1, hz2⟩ := info_parts Try.info67g
  obtain ⟨v', w', h2, h3, h4, _⟩ := run_append_own (P := Try.prog) w B 23 23 29 i0 (.agg #[.slice none 0 0, .int .i64 0]) 2 32 Try.underlying23 hi hz0 hz1 hz2 rfl (by decide) v l.length (cellsL l) hown a 1 1 [.slice x.p x.n x.cap, .int .i64 x.all] rfl
    (fun j u hu => by
      match j with
      | 0 => injection hu with hu; rw [← hu]; exact hx
      | 1 => injection hu with hu; rw [← hu]; exact hx1
      | j + 2 => simp at hu)
    (fun u hu => by
      simp only [List.mem_cons, List.not_mem_nil, or_false] at hu
      rcases hu with rfl | rfl <;> rfl) (by unfold maxLen; omega) (by omega) hB
  refine ⟨v', w', h2, ?_, h4⟩
  unfold OwnL
  rw [List.length_append, cellsL_app]
  exact h3
/-- k limits are widened -/
structure WQ (wb : World) (ls : List LV) (k : Nat) (v : Value) (wr : World) : Prop where
  blw : Below wb.heap.size wb wr
  own : ∃ ws : List LV, ws.length = k ∧ OwnL wb.heap.size wr v ws ∧ ∀ (i : Nat) (x : LV), ws[i]? = some x → (∃ y, ls[i]? = some y ∧ Wd y x ∧ In64 x.all ∧ ∀ z ∈ x.xs, In64 z) ∧ x.n = x.xs.length ∧ x.n ≤ 20 ∧ OwnI wb.heap.size wr (.slice x.p x.n x.cap) x.xs
/-- c numbers of a limit are widened; the new limit lies in a box -/
structure WR (wb : World) (ls : List LV) (k : Nat) (v : Value) (w3 : World) (y : LV) (yb c : Nat) (u : Value) (wr : World) : Prop where
  wq : WQ wb ls k v w3
  blw : Below w3.heap.size w3 wr
  ge : w3.heap.size ≤ yb
  box : wr.heap[yb]? = some (.cells #[u, .int .i64 (mx y.all)] 29 (0, 0))
  own : OwnI (yb + 1) wr u ((y.xs.take c).map mx)
theorem WR.app {wb w3 wr : World} {ls : List LV} {k yb c : Nat} {v u : Value} {y : LV} (h : WR wb ls k v w3 y yb c u wr) {x : Int} (hx : y.xs[c]? = some x) (hc : c ≤ 100) : ∃ v' w', (Builtin.append_ #[27, 27] 27 #[u, .slice (some ⟨wr.heap.size, 0, none⟩) 1 1]).run Try.prog (wr.alloc (.cells #[.int .i64 (mx x)] 2)) = .ok v' w' ∧
    w'.frozen? ⟨yb, 0, none⟩ = false ∧ w'.cell? ⟨yb, 0, none⟩ = some u ∧ WR wb ls k v w3 y yb (c + 1) v' (w'.setCell ⟨yb, 0, none⟩ v') := by
  have hb : Below wr.heap.size wr (wr.alloc (.cells #[.int .i64 (mx x)] 2)) := (Below.refl _ _).alloc (Nat.le_refl _) _
  have hcl : c < y.xs.length := (List.getElem?_eq_some_iff.1 hx).1
  have hyb := obj_lt h.box
  have hge := h.ge
  obtain ⟨v', w', h1, h2, h3, _⟩ := appX_run (wr.alloc (.cells #[.int .i64 (mx x)] 2)) (yb + 1) u _ (h.own.block fun j hj => hb.block j (h.own.lt j hj).2) (by simp; omega) ⟨wr.heap.size, 0, none⟩ (mx x) (obj_cell (heap_alloc_new wr _) rfl) (by rw [List.length_map, List.length_take]; omega)
  have hbx : w'.heap[yb]? = some (.cells #[u, .int .i64 (mx y.all)] 29 (0, 0)) := (h3.block yb (Nat.lt_of_lt_of_le hyb hb.size) fun e => by have := (h.own.lt yb e.symm).1; omega).trans ((hb.block yb hyb).trans h.box)
  refine ⟨v', w', h1, obj_free hbx 0, obj_cell hbx rfl, h.wq, ((h.blw.alloc h.blw.size _).grown h3 (by have := h.blw.size; simp; omega) (fun j hj => by have := (h.own.lt j hj).1; omega)).setCell (p := ⟨yb, 0, none⟩) h.ge _, h.ge, obj_set hbx 0 v', ?_⟩
  rw [List.take_add_one, hx, List.map_append]
  exact OwnI.block h2 fun j hj => obj_other _ (by have := (h2.lt j hj).1; show j ≠ yb; omega)
theorem WR.len {wb w3 wr : World} {ls : List LV} {k yb c : Nat} {v u : Value} {y : LV} (h : WR wb ls k v w3 y yb c u wr) (hc : c ≤ y.xs.length) : ∃ p cap, u = .slice p c cap := by
  obtain ⟨p, cap, e⟩ := h.own.shape
  rw [List.length_map, List.length_take, Nat.min_eq_left hc] at e
  exact ⟨p, cap, e⟩
/-- the round begins: the boxes of the limit and of the new one -/
theorem WQ.begin {wb w3 : World} {ls : List LV} {k : Nat} {v : Value} (h : WQ wb ls k v w3) (y : LV) (xb : Obj) : WR wb ls k v w3 y (w3.heap.size + 1) 0 (.slice none 0 0) ((w3.alloc xb).alloc (.cells #[.slice none 0 0, .int .i64 (mx y.all)] 29)) := by
  have e := heap_alloc_new (w3.alloc xb) (.cells #[.slice none 0 0, .int .i64 (mx y.all)] 29)
  rw [World.size_alloc] at e
  exact ⟨h, ((Below.refl _ _).alloc (Nat.le_refl _) _).alloc (by simp) _, by omega, e, OwnI.nil _ _⟩
set_option maxRecDepth 100000 in
theorem WR.done {wb w3 wr : World} {ls : List LV} {k yb c : Nat} {v u : Value} {y : LV} {p : Option Addr} {cap : Nat} (h : WR wb ls k v w3 y yb c u wr) (hu : u = .slice p y.n cap) (hc : c = y.xs.length) (hy : ls[k]? = some y) (hn : y.n = y.xs.length) (h20 : y.n ≤ 20) (hk : k ≤ 100) (ha : In64 y.all) (hxs : ∀ z ∈ y.xs, In64 z) :
    ∃ v' w', (Builtin.append_ #[23, 23] 23 #[v, .slice (some ⟨wr.heap.size, 0, none⟩) 1 1]).run Try.prog (wr.alloc (.cells #[.slice p y.n cap, .int .i64 (mx y.all)] 29)) = .ok v' w' ∧ WQ wb ls (k + 1) v' w' := by
  subst hu; subst hc
  obtain ⟨⟨hq, ws, hlen, hown, hat⟩, h5, hge, _, h6⟩ := h
  rw [List.take_length] at h6
  have hs := hq.size
  have hs5 := h5.size
  have hb : Below wr.heap.size wr (wr.alloc (.cells #[.slice p y.n cap, .int .i64 (mx y.all)] 29)) := (Below.refl _ _).alloc (Nat.le_refl _) _
  have hown5 : OwnL wb.heap.size (wr.alloc (.cells #[.slice p y.n cap, .int .i64 (mx y.all)] 29)) v ws := hown.block fun j hj => (hb.block j (Nat.lt_of_lt_of_le (hown.lt j hj).2 hs5)).trans (h5.block j (hown.lt j hj).2)
  obtain ⟨v', w', a1, a2, a3⟩ := appL_run _ wb.heap.size v ws hown5 (by simp; omega) ⟨wr.heap.size, 0, none⟩ ⟨p, y.n, cap, y.xs.map mx, mx y.all⟩ (obj_cell (heap_alloc_new wr _) rfl) (obj_cell (heap_alloc_new wr _) rfl) (by omega)
  -- other kinds of blocks are left
  have hk2 : ∀ (j : Nat) (cs : Array Value), wr.heap[j]? = some (.cells cs 2 (0, 0)) → w'.heap[j]? = wr.heap[j]? := fun j cs hj => by
    have hjl := obj_lt hj
    refine (a3.block j (Nat.lt_of_lt_of_le hjl hb.size) fun e => ?_).trans (hb.block j hjl)
    rcases hown5.2 with ⟨ev, _⟩ | ⟨g1, cp, cur, ev, _, hh, _⟩
    · rw [ev] at e; cases e
    · rw [ev] at e
      injection e with e
      rw [← hb.block j hjl, e] at hj
      change (wr.alloc _).heap[g1]? = _ at hh
      rw [hj] at hh
      injection hh with hh
      injection hh with _ e3 _
      exact absurd e3 (by decide)
  refine ⟨v', w', a1, ((hq.trans (h5.mono hs)).alloc (by omega) _).grown a3 (by simp; omega) (fun j hj => (hown.lt j hj).1), ws ++ [⟨p, y.n, cap, y.xs.map mx, mx y.all⟩], by simp [hlen], a2, fun i x hx => ?_⟩
  by_cases hi : i < ws.length
  · rw [List.getElem?_append_left hi] at hx
    obtain ⟨b1, b2, b3, b4⟩ := hat i x hx
    refine ⟨b1, b2, b3, b4.block fun j hj => ?_⟩
    obtain ⟨cs, hcs⟩ := b4.obj hj
    have e := h5.block j (obj_lt hcs)
    exact (hk2 j cs (e.trans hcs)).trans e
  · rw [List.getElem?_append_right (by omega)] at hx
    have h0 : i = k := by
      have := (List.getElem?_eq_some_iff.1 hx).1
      simp at this; omega
    subst h0
    rw [hlen, Nat.sub_self] at hx
    injection hx with hx
    subst hx
    refine ⟨⟨y, hy, ⟨rfl, rfl, rfl⟩, mx_in ha, fun z hz => ?_⟩, by simp [hn], h20, ?_⟩
    · obtain ⟨t, ht, rfl⟩ := List.mem_map.1 hz
      exact mx_in (hxs t ht)
    · have hI : OwnI wb.heap.size wr (.slice p y.n cap) (y.xs.map mx) := ⟨h6.1, h6.2.imp id fun ⟨g, cp, cur, ev, hg, r⟩ => ⟨g, cp, cur, ev, by omega, r⟩⟩
      refine hI.block fun j hj => ?_
      obtain ⟨cs, hcs⟩ := hI.obj hj
      exact hk2 j cs hcs
/-- the widened limits are a row of limits -/
theorem WQ.done {wb wr : World} {ls : List LV} {v : Value} (h : WQ wb ls ls.length v wr) (h100 : ls.length ≤ 100) : ∃ g cap ws, v = .slice g ls.length cap ∧ ws.length = ls.length ∧ LRow wr g ls.length ws ∧ ∀ (i : Nat) (x : LV), ws[i]? = some x → ∃ y, ls[i]? = some y ∧ Wd y x := by
  obtain ⟨hq, ws, hlen, hown, hat⟩ := h
  obtain ⟨p, cap, e⟩ := hown.shape
  rw [hlen] at e
  refine ⟨p, cap, ws, e, hlen, ⟨hlen, by omega, fun x hx => ?_, ?_⟩, fun i x hx => ?_⟩
  · obtain ⟨i, hi⟩ := List.getElem?_of_mem hx
    obtain ⟨⟨y, b1, b2, b3, b4⟩, b5, b6, b7⟩ := hat i x hi
    rw [b5] at b7
    have hsq := b7.seq b4 (by omega)
    rw [← b5] at hsq
    exact ⟨hsq, b3⟩
  · rcases hown.2 with ⟨ev, h0⟩ | ⟨g, cp, cur, ev, hg, hh, _, _, _, ht⟩
    · exact .inl (by omega)
    · rw [e] at ev
      injection ev with ev1 _ _
      refine .inr ⟨g, 0, ev1, obj_lt hh, fun i x hx => ?_⟩
      obtain ⟨c1, c2⟩ := cellsL_at hx
      have hil := (List.getElem?_eq_some_iff.1 hx).1
      have get : ∀ j v, (cellsL ws)[j]? = some v → cur[0 + j]? = some v := fun j v hj => by
        have hjl := (List.getElem?_eq_some_iff.1 hj).1
        rw [cellsL_len] at hjl
        rw [← ht, List.getElem?_take, if_pos (by omega), Array.getElem?_toList] at hj
        rw [Nat.zero_add]; exact hj
      refine ⟨obj_cell hh (get _ _ c1), ?_⟩
      have := obj_cell (b := g) (i := 0 + (i * 2 + 1)) hh (get _ _ c2)
      rw [show 0 + i * 2 + 1 = 0 + (i * 2 + 1) by omega]
      exact this
  · obtain ⟨⟨y, b1, b2, _⟩, _⟩ := hat i x hx
    exact ⟨y, b1, b2⟩
end Go.Proofs.Ytljclgphgojphaa
