/- Rows of rows, each new and apart from all others. -/
import Derived.Test.YthocnlalahknjaaGreatQWC
namespace Go.Proofs.YthocnlalahknjaaGreat.Dd
open Go.RowKit Go.Maps
set_option linter.unusedVariables false

/-- rows of amounts, new since w, all in blocks of their own -/
structure PR (w wr : World) (u : Value) (rows : List (List Int)) : Prop where
  ex : ∃ vs : List Value, vs.length = rows.length ∧ wr.ownsRow 0 50 1 u rows.length vs ∧ (∀ i (h : i < rows.length) v, vs[i]? = some v → IR w wr v rows[i] ∧ ∀ g, v.ownBlock = some g → u.ownBlock ≠ some g) ∧
    ∀ (i j : Nat) (v v' : Value), i < j → vs[i]? = some v → vs[j]? = some v' → ∀ g, v.ownBlock = some g → v'.ownBlock ≠ some g
  own : ∀ g, u.ownBlock = some g → w.heap.size ≤ g
  bl : Below w.heap.size w wr
theorem PR.nil (w : World) : PR w w (.slice none 0 0) [] := ⟨⟨[], rfl, World.ownsRow_nil _ _ _ _, (fun i h => by simp at h), fun i j v v' _ h => by simp at h⟩, (fun g hg => by simp [Value.ownBlock] at hg), Below.refl _ _⟩
theorem PR.below {w wr w' : World} {u : Value} {rows : List (List Int)} (h : PR w wr u rows) (hb : Below wr.heap.size wr w') : PR w w' u rows := by
  obtain ⟨⟨vs, h1, h2, h3, h4⟩, ho, hbl⟩ := h
  exact ⟨⟨vs, h1, orow_kept h2 fun g hg => hb.block g (World.ownsRow.lt h2 g hg).2, fun i hi v hv => ⟨(h3 i hi v hv).1.below hb, (h3 i hi v hv).2⟩, h4⟩, ho, hbl.trans (hb.mono hbl.size)⟩
/-- the cells of the outer row, with one that is made ahead of an append -/
theorem PR.pre {w wr W1 : World} {u : Value} {rows : List (List Int)} (h : PR w wr u rows) (hb : Below wr.heap.size wr W1) (o : Obj) : ∃ vs, (W1.alloc o).ownsRow 0 50 1 u rows.length vs ∧
    ∀ (v : Value) (row : List Int) (v' : Value) (w' : World), IR wr W1 v row → w'.ownsRow 0 50 1 v' (rows.length + 1) (vs ++ [v]) → (W1.alloc o).grownBy w' u.ownBlock → (∀ g', v'.ownBlock = some g' → u.ownBlock = some g' ∨ W1.heap.size + 1 ≤ g') → PR w w' v' (rows ++ [row]) := by
  obtain ⟨⟨vs, e1, e2, e3, e4⟩, ho, hbl⟩ := h
  have hb2 : Below wr.heap.size wr (W1.alloc o) := hb.alloc hb.size o
  have k2 : (W1.alloc o).ownsRow 0 50 1 u rows.length vs := orow_kept e2 fun g hg => hb2.block g (World.ownsRow.lt e2 g hg).2
  refine ⟨vs, k2, fun v row v' w' hI h1 h2 h3 => ?_⟩
  have hIo : ∀ g, v.ownBlock = some g → wr.heap.size ≤ g ∧ g < W1.heap.size := fun g hg => ⟨hI.own g hg, (World.ownsRow.lt hI.row g hg).2⟩
  have hul : ∀ g, u.ownBlock = some g → g < wr.heap.size := fun g hg => (World.ownsRow.lt e2 g hg).2
  have hkeep : ∀ g, g < W1.heap.size → u.ownBlock ≠ some g → w'.heap[g]? = W1.heap[g]? := fun g hg hne => (h2.block g (by simp; omega) (fun e => hne e.symm)).trans (Below.heap_alloc _ _ _ hg)
  have hbw : Below w.heap.size w w' := below_grown ((hbl.trans (hb.mono hbl.size)).alloc (by have := hbl.size; have := hb.size; omega) o) h2 ho (Nat.le_refl _)
  have hvs : ∀ i, i < vs.length → (vs ++ [v])[i]? = vs[i]? := fun i hi => List.getElem?_append_left hi
  have hlast : (vs ++ [v])[vs.length]? = some v := by simp
  have hlt : ∀ i x, (vs ++ [v])[i]? = some x → i < vs.length ∨ (i = vs.length ∧ x = v) := fun i x hx => by
    obtain ⟨hi, _⟩ := List.getElem?_eq_some_iff.1 hx
    rw [List.length_append] at hi
    by_cases h : i < vs.length
    · exact .inl h
    · have : i = vs.length := by simp at hi; omega
      subst this
      rw [hlast] at hx
      exact .inr ⟨rfl, by injection hx with hx; exact hx.symm⟩
  have hold : ∀ i x g, i < vs.length → vs[i]? = some x → x.ownBlock = some g → g < wr.heap.size ∧ u.ownBlock ≠ some g := fun i x g hi hx hg => by
    obtain ⟨q1, q2⟩ := e3 i (by omega) x hx
    exact ⟨(World.ownsRow.lt q1.row g hg).2, q2 g hg⟩
  refine ⟨⟨vs ++ [v], by simp [e1], by rw [List.length_append]; exact h1, fun i hi x hx => ?_, fun i j x x' hij hx hx' g hg => ?_⟩, fun g' hg' => ?_, hbw⟩
  · rcases hlt i x hx with hl | ⟨rfl, rfl⟩
    · rw [hvs i hl] at hx
      obtain ⟨q1, q2⟩ := e3 i (by omega) x hx
      have er : (rows ++ [row])[i] = rows[i]'(by omega) := List.getElem_append_left (by omega)
      rw [er]
      refine ⟨⟨orow_kept q1.row fun g hg => ?_, q1.own, hbw⟩, fun g hg => ?_⟩
      · obtain ⟨p1, p2⟩ := hold i x g hl hx hg
        rw [hkeep g (by have := hb.size; omega) p2]
        exact hb.block g p1
      · obtain ⟨p1, p2⟩ := hold i x g hl hx hg
        intro e
        rcases h3 g e with h | h
        · exact p2 h
        · have := hb.size; omega
    · have er : (rows ++ [row])[vs.length]'hi = row := by
        rw [List.getElem_append_right (by omega)]; simp
      rw [er]
      refine ⟨⟨orow_kept hI.row fun g hg => hkeep g (hIo g hg).2 (fun e => by have := hul g e; have := (hIo g hg).1; omega), fun g hg => by have := (hIo g hg).1; have := hbl.size; omega, hbw⟩, fun g hg => ?_⟩
      intro e
      rcases h3 g e with h | h
      · have := hul g h; have := (hIo g hg).1; omega
      · have := (hIo g hg).2; omega
  · rcases hlt j x' hx' with hl | ⟨rfl, rfl⟩
    · rw [hvs j hl] at hx'
      rw [hvs i (by omega)] at hx
      exact e4 i j x x' hij hx hx' g hg
    · rw [hvs i hij] at hx
      have := (hold i x g hij hx hg).1
      intro e
      have := (hIo g e).1
      omega
  · rcases h3 g' hg' with h | h
    · exact ho g' h
    · have := hbl.size; have := hb.size; omega
/-- it is read as rows of rows -/
theorem PR.seq {w wr : World} {u : Value} {rows : List (List Int)} (h : PR w wr u rows) (hz : ∀ r ∈ rows, ∀ x ∈ r, Amt x) (hl : ∀ r ∈ rows, r.length ≤ 100) : NSeq wr u rows := by
  obtain ⟨⟨vs, e1, e2, e3, e4⟩, ho, hbl⟩ := h
  obtain ⟨p, cap, rfl, -, -, hp⟩ := orow_shape e2
  refine ⟨p, cap, rfl, ?_⟩
  by_cases h0 : rows = []
  · exact .inl h0
  · have hpos : 0 < rows.length := List.length_pos_iff.2 h0
    obtain ⟨g, cap2, cur, e, hg, -⟩ := orow_some e2 hpos
    injection e with ea eb ec
    subst ea
    refine .inr ⟨g, 0, rfl, obj_lt hg, fun i hi => ?_⟩
    obtain ⟨v, hv⟩ : ∃ v, vs[i]? = some v := ⟨vs[i]'(by omega), List.getElem?_eq_getElem (by omega)⟩
    obtain ⟨q1, -⟩ := e3 i hi v hv
    obtain ⟨pp, cc, rfl, -, -, -⟩ := orow_shape q1.row
    refine ⟨pp, cc, ?_, orow_seq q1.row rfl (hz _ (List.getElem_mem hi)) (by have := hl _ (List.getElem_mem hi); omega)⟩
    rw [Nat.zero_add]
    exact orow_cell e2 rfl hv
/-- one number of it, and that number written -/
theorem PR.at {w wr : World} {u : Value} {rows : List (List Int)} (h : PR w wr u rows) {m c : Nat} (hm : m < rows.length) (hc : c < (rows[m]).length) (hz : ∀ r ∈ rows, ∀ x ∈ r, Amt x) :
    ∃ g cap g2 cap2, u = .slice (some ⟨g, 0, none⟩) rows.length cap ∧ g < wr.heap.size ∧ w.heap.size ≤ g ∧ wr.cell? ⟨g, m, none⟩ = some (.slice (some ⟨g2, 0, none⟩) (rows[m]).length cap2) ∧ g2 < wr.heap.size ∧ w.heap.size ≤ g2 ∧ g ≠ g2 ∧
      wr.cell? ⟨g2, c, none⟩ = some (.int .i64 ((rows[m]).getD c 0)) ∧ wr.frozen? ⟨g2, c, none⟩ = false ∧ ∀ y, PR w (wr.setCell ⟨g2, c, none⟩ (.int .i64 y)) u (rows.set m ((rows[m]).set c y)) := by
  obtain ⟨⟨vs, e1, e2, e3, e4⟩, ho, hbl⟩ := h
  obtain ⟨g, cap, cur, rfl, hg, -⟩ := orow_some e2 (by omega)
  obtain ⟨v, hv⟩ : ∃ v, vs[m]? = some v := ⟨vs[m]'(by omega), List.getElem?_eq_getElem (by omega)⟩
  obtain ⟨q1, q2⟩ := e3 m hm v hv
  obtain ⟨g2, cap2, cur2, rfl, hg2, -⟩ := orow_some q1.row (by omega)
  have hne : g ≠ g2 := fun e => q2 g2 rfl (by rw [e]; rfl)
  refine ⟨g, cap, g2, cap2, rfl, obj_lt hg, ho g rfl, orow_cell e2 rfl hv, obj_lt hg2, q1.own g2 rfl, hne, ?_, orow_free q1.row rfl c, fun y => ?_⟩
  · refine orow_cell q1.row rfl ?_
    rw [List.getElem?_map, List.getElem?_eq_getElem hc, List.getD_eq_getElem?_getD, List.getElem?_eq_getElem hc]; rfl
  · have hother : ∀ k, k ≠ g2 → (wr.setCell ⟨g2, c, none⟩ (.int .i64 y)).heap[k]? = wr.heap[k]? := fun k hk => by
      exact obj_other _ hk
    have hbw : Below w.heap.size w (wr.setCell ⟨g2, c, none⟩ (.int .i64 y)) := ⟨hbl.os, hbl.tape, hbl.output, by have := hbl.size; simpa using this, fun k hk => by rw [hother k (by have := q1.own g2 rfl; omega)]; exact hbl.block k hk⟩
    refine ⟨⟨vs, by simpa using e1, ?_, fun i hi x hx => ?_, e4⟩, ho, hbw⟩
    · rw [List.length_set]
      exact orow_kept e2 fun k hk => hother k (fun e => by rw [e] at hk; injection hk with hk; exact hne hk)
    · have hi2 : i < rows.length := by simpa using hi
      obtain ⟨r1, r2⟩ := e3 i hi2 x hx
      by_cases him : i = m
      · subst him
        rw [hv] at hx
        injection hx with hx
        subst hx
        have er : (rows.set i ((rows[i]).set c y))[i]'hi = (rows[i]).set c y := by simp
        rw [er]
        refine ⟨⟨?_, r1.own, hbw⟩, r2⟩
        have := orow_set r1.row (g := g2) (j := c) rfl (by simpa using hc) (.int .i64 y)
        rw [List.length_set, List.map_set]
        exact this
      · have er : (rows.set m ((rows[m]).set c y))[i]'hi = rows[i] := by rw [List.getElem_set_ne (by omega)]
        rw [er]
        refine ⟨⟨orow_kept r1.row fun k hk => hother k (fun e => ?_), r1.own, hbw⟩, r2⟩
        subst e
        rcases Nat.lt_or_gt_of_ne him with h | h
        · exact e4 i m _ _ h hx hv k hk rfl
        · exact e4 m i _ _ h hv hx k rfl hk
end Go.Proofs.YthocnlalahknjaaGreat.Dd
