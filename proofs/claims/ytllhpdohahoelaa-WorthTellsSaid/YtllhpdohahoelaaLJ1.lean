/- A row of exact numbers, one a currency. -/
import Derived.Test.YtllhpdohahoelaaLI1
import Derived.Test.YtllhpdohahoelaaLG8
import Derived.Test.YtllhpdohahoelaaLG4
import Derived.Test.YtllhpdohahoelaaWA
namespace Go.Proofs.Ytllhpdohahoelaa
open Go.RowKit
set_option linter.unusedVariables false

theorem Try.info65r : (Try.prog.info? 83).map (fun i => (i.zero, i.size, i.bytes)) = some (some (.agg #[.bool false, .slice none 0 0]), 2, 32) := by kernel_rfl
/-- numbers that are 0 -/
def zbg (n : Nat) : Array Value := madeCells #[.bool false, .slice none 0 0] (n * 2)
theorem zbg_size (n : Nat) : (zbg n).size = n * 2 := size_madeCells _ _
theorem zbg_get (n c : Nat) (h : c < n) : (zbg n)[c * 2]? = some (.bool false) ∧ (zbg n)[c * 2 + 1]? = some (.slice none 0 0) := by
  unfold zbg madeCells
  have h1 : c * 2 < n * 2 := by omega
  have h2 : c * 2 + 1 < n * 2 := by omega
  have h3 : (c * 2) % 2 = 0 := by omega
  have h4 : (c * 2 + 1) % 2 = 1 := by omega
  constructor
  · simp [h1]
  · simp [h2]
theorem make_bigs (n : Nat) (hn : n ≤ 1000) (w : World) :
    (Instr.makeSlice 86 (.int .i64 (n : Int)) (.int .i64 (n : Int))).run Try.prog w = .ok (.slice (some ⟨w.heap.size, 0, none⟩) n n) (w.alloc (.cells (zbg n) 83)) := by
  obtain ⟨i0, hi, hz0, hz1, hz2⟩ := info_parts Try.info65r
  have hb : (i0.bytes : Int) * (n : Int) ≤ 281474976710656 := by rw [hz2]; omega
  have hr := run_make (P := Try.prog) w 86 83 i0 _ Try.underlying86 hi hz0 .i64 .i64 n n (by omega) (by omega) hb (by omega)
  simp only [Int.toNat_natCast, hz1] at hr
  exact hr
theorem isB_zero (w : World) (L : Nat) : IsB w (.agg #[.bool false, .slice none 0 0]) L 0 := ⟨false, none, 0, 0, [], rfl, DRow.nil _ _, Nat.le_refl _, fun _ => rfl, Nat.zero_le _, rfl, fun _ => rfl, by omega⟩
/-- a row of numbers, one a currency -/
structure SB (w : World) (g n L : Nat) (S : Nat → Int) : Prop where
  row : ∃ cs, w.heap[g]? = some (.cells cs 83 (0, 0)) ∧ cs.size = n * 2 ∧ ∀ c, c < n → ∃ neg p len cap, cs[c * 2]? = some (.bool neg) ∧ cs[c * 2 + 1]? = some (.slice p len cap) ∧ IsB w (.agg #[.bool neg, .slice p len cap]) L (S c)
theorem SB.lt {w : World} {g n L : Nat} {S : Nat → Int} (h : SB w g n L S) : g < w.heap.size := by obtain ⟨cs, h, _⟩ := h.row; exact obj_lt h
theorem SB.free {w : World} {g n L : Nat} {S : Nat → Int} (h : SB w g n L S) (i : Nat) : w.frozen? ⟨g, i, none⟩ = false := by obtain ⟨cs, h1, _⟩ := h.row; exact obj_free h1 i
theorem SB.at {w : World} {g n L : Nat} {S : Nat → Int} (h : SB w g n L S) {c : Nat} (hc : c < n) : ∃ neg p len cap, w.cell? ⟨g, c * 2, none⟩ = some (.bool neg) ∧ w.cell? ⟨g, c * 2 + 1, none⟩ = some (.slice p len cap) ∧ IsB w (.agg #[.bool neg, .slice p len cap]) L (S c) := by
  obtain ⟨cs, h1, _, h2⟩ := h.row
  obtain ⟨neg, p, len, cap, a, b, c⟩ := h2 c hc
  exact ⟨neg, p, len, cap, obj_cell h1 a, obj_cell h1 b, c⟩
theorem SB.below {w w' : World} {g n L : Nat} {S : Nat → Int} (h : SB w g n L S) (hb : Below w.heap.size w w') : SB w' g n L S := by
  obtain ⟨cs, h1, h0, h2⟩ := h.row
  refine ⟨cs, (hb.block _ (obj_lt h1)).trans h1, h0, fun c hc => ?_⟩
  obtain ⟨neg, p, len, cap, a, b, d⟩ := h2 c hc
  exact ⟨neg, p, len, cap, a, b, d.kept hb⟩
theorem SB.made (w : World) (n L : Nat) : SB (w.alloc (.cells (zbg n) 83)) w.heap.size n L fun _ => 0 :=
  ⟨zbg n, heap_alloc_new w _, zbg_size n, fun c hc => ⟨false, none, 0, 0, (zbg_get n c hc).1, (zbg_get n c hc).2, isB_zero _ _⟩⟩
/-- no cell of such a row is an int -/
theorem SB.noint {w : World} {g n L : Nat} {S : Nat → Int} (h : SB w g n L S) (i : Nat) (z : Int) : w.cell? ⟨g, i, none⟩ ≠ some (.int .i64 z) := by
  intro e
  obtain ⟨cs, h1, h0, h2⟩ := h.row
  rw [cell_of_row w g i _ 83 (0, 0) h1] at e
  have hi : i < n * 2 := by have := (Array.getElem?_eq_some_iff.1 e).1; omega
  obtain ⟨neg, p, len, cap, a, b, _⟩ := h2 (i / 2) (by omega)
  by_cases hm : i % 2 = 0
  · rw [show i = i / 2 * 2 by omega, a] at e
    simp at e
  · rw [show i = i / 2 * 2 + 1 by omega, b] at e
    simp at e
theorem DRow.set {w : World} {p : Option Addr} {len : Nat} {ds : List Int} {g : Nat} (h : DRow w p len ds) (hg : ∀ i z, w.cell? ⟨g, i, none⟩ ≠ some (.int .i64 z)) {w' : World} (hw : ∀ k, k ≠ g → w'.heap[k]? = w.heap[k]?) (hs : w.heap.size ≤ w'.heap.size) : DRow w' p len ds := by
  obtain ⟨h1, h2, h4⟩ := h
  refine ⟨h1, h2, ?_⟩
  rcases h4 with h4 | ⟨b, off, e, hlt, hc⟩
  · exact .inl h4
  · by_cases h0 : len = 0
    · exact .inl h0
    · have hne : b ≠ g := by
        rintro rfl
        exact hg _ _ (hc 0 (by omega))
      refine .inr ⟨b, off, e, Nat.lt_of_lt_of_le hlt hs, fun i hi => ?_⟩
      rw [World.cell?_of_block (w := w) (a := ⟨b, off + i, none⟩) (hw b hne)]
      exact hc i hi
theorem IsB.set {w w' : World} {v : Value} {L : Nat} {N : Int} {g : Nat} (h : IsB w v L N) (hg : ∀ i z, w.cell? ⟨g, i, none⟩ ≠ some (.int .i64 z)) (hw : ∀ k, k ≠ g → w'.heap[k]? = w.heap[k]?) (hs : w.heap.size ≤ w'.heap.size) : IsB w' v L N := by
  obtain ⟨neg, p, len, cap, ds, h1, h2, h3⟩ := h
  exact ⟨neg, p, len, cap, ds, h1, h2.set hg hw hs, h3⟩
/-- another number -/
theorem SB.put {w : World} {g n L c : Nat} {S : Nat → Int} (h : SB w g n L S) (hc : c < n) {neg : Bool} {p : Option Addr} {len cap : Nat} {x : Int} (hx : IsB w (.agg #[.bool neg, .slice p len cap]) (L + 1) x) :
    SB ((w.setCell ⟨g, c * 2, none⟩ (.bool neg)).setCell ⟨g, c * 2 + 1, none⟩ (.slice p len cap)) g n (L + 1) (upd S c x) := by
  have hno := h.noint
  have hw : ∀ k, k ≠ g → ((w.setCell ⟨g, c * 2, none⟩ (.bool neg)).setCell ⟨g, c * 2 + 1, none⟩ (.slice p len cap)).heap[k]? = w.heap[k]? := fun k hk => (obj_other _ hk).trans (obj_other _ hk)
  have hs : w.heap.size ≤ ((w.setCell ⟨g, c * 2, none⟩ (.bool neg)).setCell ⟨g, c * 2 + 1, none⟩ (.slice p len cap)).heap.size := by simp
  obtain ⟨cs, h1, h0, h2⟩ := h.row
  refine ⟨_, obj_set (obj_set h1 (c * 2) _) (c * 2 + 1) _, by simp [h0], fun d hd => ?_⟩
  by_cases e : d = c
  · subst e
    refine ⟨neg, p, len, cap, ?_, ?_, by rw [upd_same]; exact hx.set hno hw hs⟩
    · rw [Array.getElem?_setIfInBounds_ne (by omega), Array.getElem?_setIfInBounds_self_of_lt (by omega)]
    · rw [Array.getElem?_setIfInBounds_self_of_lt (by simp; omega)]
  · obtain ⟨neg', p', len', cap', a, b, d'⟩ := h2 d hd
    refine ⟨neg', p', len', cap', ?_, ?_, by rw [upd_other _ _ e]; exact (d'.set hno hw hs).wide (by omega)⟩
    · rw [Array.getElem?_setIfInBounds_ne (by omega), Array.getElem?_setIfInBounds_ne (by omega)]; exact a
    · rw [Array.getElem?_setIfInBounds_ne (by omega), Array.getElem?_setIfInBounds_ne (by omega)]; exact b
theorem val_ne {ds : List Int} (hd : Digs (dg ds)) (h0 : 0 < ds.length) (hl : dg ds (ds.length - 1) ≠ 0) : val ds ≠ 0 := by
  intro e
  obtain ⟨n, hn⟩ : ∃ n, ds.length = n + 1 := ⟨ds.length - 1, by omega⟩
  have h1 := dv_zero hd (m := 0) (n := ds.length) (by show dv (dg ds) ds.length < pw 0; unfold val at e; rw [e, pw_zero]; decide) (ds.length - 1) (Nat.zero_le _) (by omega)
  exact hl h1
/-- a number is 0 just if it has no digit -/
theorem isB_nil {w : World} {neg : Bool} {p : Option Addr} {len cap L : Nat} {N : Int} (h : IsB w (.agg #[.bool neg, .slice p len cap]) L N) : (0 < len) ↔ N ≠ 0 := by
  obtain ⟨neg', p', len', cap', ds, e, ⟨h1, h2, _⟩, _, _, _, hN, _, hl⟩ := h
  simp at e
  obtain ⟨rfl, rfl, rfl, rfl⟩ := e
  constructor
  · intro h0
    have := val_ne h2 (by omega) (by rw [h1]; exact hl h0)
    rw [← hN]
    unfold sgB
    split <;> omega
  · intro hn
    refine Nat.pos_of_ne_zero fun e => hn ?_
    have : ds = [] := List.eq_nil_of_length_eq_zero (by omega)
    subst this
    rw [← hN]
    unfold sgB
    rw [val_nil]
    split <;> rfl
theorem sumC_take {ps : List Pst} {k : Nat} {q : Pst} (hq : ps[k]? = some q) (c : Int) : sumC c (ps.take (k + 1)) = sumC c (ps.take k) + (if q.c = c then q.a else 0) := by
  obtain ⟨hk, e⟩ := List.getElem?_eq_some_iff.1 hq
  rw [List.take_succ_eq_append_getElem hk, sumC_app, e]
  show _ + ((if q.c = c then q.a else 0) + 0) = _
  omega
/-- the sums of so many postings -/
def sumN (ps : List Pst) (k : Nat) : Nat → Int := fun c => sumC (c : Nat) (ps.take k)
theorem sumN_succ {ps : List Pst} {k c : Nat} {q : Pst} (hq : ps[k]? = some q) (hc : q.c = (c : Int)) : upd (sumN ps k) c (sumN ps k c + q.a) = sumN ps (k + 1) := by
  funext d
  unfold upd sumN
  rw [sumC_take hq]
  by_cases e : d = c
  · subst e; rw [if_pos rfl, if_pos hc]
  · rw [if_neg e, if_neg (by omega)]; omega
end Go.Proofs.Ytllhpdohahoelaa
