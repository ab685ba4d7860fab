/- What awake asks of Net, Schedule and Behind. -/
import Derived.Test.YthocnlalahknjaaGreatQPP
namespace Go.Proofs.YthocnlalahknjaaGreat.Dd
open Go.RowKit Go.Maps
set_option linter.unusedVariables false

/-- dues of one order are one list, where ticks, members and currencies tell them apart -/
theorem order_eq {L M : List Du} (hp : L.Perm M) (hL : InOrder byTk L) (hM : InOrder byTk M) (hk : ∀ x ∈ M, ∀ y ∈ M, x.t = y.t → x.m = y.m → x.c = y.c → x = y) : L = M := by
  refine List.Perm.eq_of_pairwise (le := fun a b : Du => ¬ byTk b a < 0) (fun a b ha hb h1 h2 => ?_) hL hM hp
  rw [byTk_neg, byAcc_neg] at h1 h2
  exact hk a (hp.mem_iff.1 ha) b hb (by omega) (by omega) (by omega)
def L3 : List Du := [⟨0, 0, 5, 4⟩, ⟨0, 0, 9, 3⟩, ⟨0, 0, 12, 3⟩]
theorem ev10 : shares 10 [1, 1, 1] = [4, 3, 3] := by decide +kernel
theorem all3 : allD [5, 9, 12] [[-10]] 1 = L3 := by
  unfold allD rowD L3
  simp [duesOf, duesUp, dueAt, ev10, List.range_succ, List.replicate_succ]
theorem seq_new (W W' : World) (g n : Nat) (zs : List Int) (h : W.heap[g]? = some (.cells (zs.map (Value.int .i64)).toArray 3 (0, 0))) (hn : n = zs.length) (hz : ∀ i, Amt (zs.getD i 0)) (hl : n ≤ 1000) : Seq64 W (some ⟨g, 0, none⟩) n zs :=
  ⟨hn.symm, hz, by omega, .inr ⟨g, 0, rfl, obj_lt h, fun i hi => by
    rw [Nat.zero_add]
    refine obj_cell h ?_
    simp only [List.getElem?_toArray, List.getElem?_map]
    rw [List.getD_eq_getElem?_getD, List.getElem?_eq_getElem (by omega)]; rfl⟩⟩
theorem seq_new2 (W : World) (g n : Nat) (zs : List Int) (T : Nat) (h : W.heap[g]? = some (.cells (zs.map (Value.int .i64)).toArray T (0, 0))) (hn : n = zs.length) (hz : ∀ i, Amt (zs.getD i 0)) (hl : n ≤ 1000) : Seq64 W (some ⟨g, 0, none⟩) n zs :=
  ⟨hn.symm, hz, by omega, .inr ⟨g, 0, rfl, obj_lt h, fun i hi => by
    rw [Nat.zero_add]
    refine obj_cell h ?_
    simp only [List.getElem?_toArray, List.getElem?_map]
    rw [List.getD_eq_getElem?_getD, List.getElem?_eq_getElem (by omega)]; rfl⟩⟩
theorem amt_all {zs : List Int} (h : ∀ z ∈ zs, Amt z) (i : Nat) : Amt (zs.getD i 0) := by
  rw [List.getD_eq_getElem?_getD]
  cases hi : zs[i]? with
  | none => exact ⟨by decide, by decide⟩
  | some x => exact h x (List.mem_of_getElem? hi)
/-- one row of one amount, built anew -/
theorem nseq_one (W : World) (x : Int) (hx : Amt x) : NSeq ((W.alloc (.cells #[.int .i64 x] 2)).alloc (.cells #[.slice (some ⟨W.heap.size, 0, none⟩) 1 1] 50)) (.slice (some ⟨W.heap.size + 1, 0, none⟩) 1 1) [[x]] := by
  refine ⟨_, 1, rfl, .inr ⟨W.heap.size + 1, 0, rfl, by simp, fun i hi => ?_⟩⟩
  have h0 : i = 0 := by simpa using hi
  subst h0
  refine ⟨some ⟨W.heap.size, 0, none⟩, 1, obj_cell (new_two W _ _) rfl, ?_⟩
  exact seq_new2 _ W.heap.size 1 [x] 2 ((Below.heap_alloc _ _ _ (by simp)).trans (heap_alloc_new W _)) rfl (amt_all fun z hz => by obtain rfl := List.mem_singleton.1 hz; exact hx) (by omega)
theorem awake_sch (W : World) : Calls Tryz.prog 13 #[.slice (some ⟨W.heap.size + 1, 0, none⟩) 1 1, .slice (some ⟨W.heap.size + 1 + 1, 0, none⟩) 3 3] (((W.alloc (.cells #[.int .i64 (-10)] 2)).alloc (.cells #[.slice (some ⟨W.heap.size, 0, none⟩) 1 1] 50)).alloc (.cells #[.int .i64 5, .int .i64 9, .int .i64 12] 3)) fun e w' =>
    ∃ v, e = .returned (.tuple #[v, .int .i64 0]) ∧ USeq w' v L3 ∧ Below W.heap.size W w' := by
  have h1 := nseq_one W (-10) ⟨by decide, by decide⟩
  generalize hW1 : (W.alloc (.cells #[.int .i64 (-10)] 2)).alloc (.cells #[.slice (some ⟨W.heap.size, 0, none⟩) 1 1] 50) = W1 at *
  have hs1 : W1.heap.size = W.heap.size + 1 + 1 := by rw [← hW1]; simp
  have hb1 : Below W.heap.size W W1 := by rw [← hW1]; exact ((Below.refl _ _).alloc (Nat.le_refl _) _).alloc (by simp) _
  have hb2 : Below W1.heap.size W1 (W1.alloc (.cells #[.int .i64 5, .int .i64 9, .int .i64 12] 3)) := (Below.refl _ _).alloc (Nat.le_refl _) _
  have h2 : Seq64 (W1.alloc (.cells #[.int .i64 5, .int .i64 9, .int .i64 12] 3)) (some ⟨W1.heap.size, 0, none⟩) 3 [5, 9, 12] := seq_new2 _ W1.heap.size 3 [5, 9, 12] 3 (heap_alloc_new W1 _) rfl (amt_all fun z hz => by simp at hz; rcases hz with rfl | rfl | rfl <;> exact ⟨by decide, by decide⟩) (by omega)
  rw [hs1] at h2
  refine (schedule_any _ [[-10]] _ 3 3 [5, 9, 12] _ (h1.kept hb2) h2 (by decide) (fun r hr => by obtain rfl := List.mem_singleton.1 hr; decide)).mono ?_
  rintro e w' ⟨hb, ⟨hm, _⟩ | ⟨_, hm, _⟩ | ⟨_, _, hm, _⟩ | ⟨_, _, _, u, L, rfl, hp, ho, hU⟩⟩
  · exact absurd hm (by decide)
  · exact absurd hm (by decide)
  · exact absurd hm (by decide)
  · have hp2 : L.Perm L3 := by rw [← all3]; exact hp
    have e1 : L = L3 := order_eq hp2 ho (by unfold InOrder L3; decide) (by unfold L3; decide)
    rw [e1] at hU
    exact ⟨u, rfl, hU, hb1.trans (hb2.trans (hb.mono hb2.size) |>.mono hb1.size)⟩
theorem awake_sch2 (W : World) : Calls Tryz.prog 13 #[.slice none 0 0, .slice (some ⟨W.heap.size, 0, none⟩) 2 2] (W.alloc (.cells #[.int .i64 5, .int .i64 5] 3)) fun e w' =>
    e = .returned (.tuple #[.slice none 0 0, .int .i64 1]) ∧ Below W.heap.size W w' := by
  have hb2 : Below W.heap.size W (W.alloc (.cells #[.int .i64 5, .int .i64 5] 3)) := (Below.refl _ _).alloc (Nat.le_refl _) _
  have h2 : Seq64 (W.alloc (.cells #[.int .i64 5, .int .i64 5] 3)) (some ⟨W.heap.size, 0, none⟩) 2 [5, 5] := seq_new2 _ W.heap.size 2 [5, 5] 3 (heap_alloc_new W _) rfl (amt_all fun z hz => by simp at hz; subst hz; exact ⟨by decide, by decide⟩) (by omega)
  refine (schedule_any _ [] _ 2 2 [5, 5] _ ⟨none, 0, rfl, .inl rfl⟩ h2 (by decide) (fun r hr => by cases hr)).mono ?_
  rintro e w' ⟨hb, ⟨hm, rfl⟩ | ⟨hm, _⟩ | ⟨hm, _⟩ | ⟨hm, _⟩⟩
  · exact ⟨rfl, hb2.trans (hb.mono hb2.size)⟩
  · exact absurd hm (by decide)
  · exact absurd hm (by decide)
  · exact absurd hm (by decide)
theorem beh_two : ∀ L : List Du, L.Perm (ofNow L3 9) → behL [[5]] 9 L.length L = some [⟨0, 0, 9, 2⟩] := by
  intro L hp
  have e : ofNow L3 9 = [⟨0, 0, 5, 4⟩, ⟨0, 0, 9, 3⟩] := by decide
  rw [e] at hp
  have hl := hp.length_eq
  match L, hl with
  | [x, y], _ =>
    have hx := hp.mem_iff.1 (List.mem_cons_self (a := x) (l := [y]))
    have hy := hp.mem_iff.1 (List.mem_cons_of_mem x (List.mem_cons_self (a := y) (l := [])))
    have ha := hp.mem_iff.2 (List.mem_cons_self (a := (⟨0, 0, 5, 4⟩ : Du)) (l := [⟨0, 0, 9, 3⟩]))
    have hb := hp.mem_iff.2 (List.mem_cons_of_mem (⟨0, 0, 5, 4⟩ : Du) (List.mem_cons_self (a := (⟨0, 0, 9, 3⟩ : Du)) (l := [])))
    simp only [List.mem_cons, List.not_mem_nil, or_false] at hx hy ha hb
    rcases hx with rfl | rfl <;> rcases hy with rfl | rfl
    · revert hb; decide
    · decide
    · decide
    · revert ha; decide
theorem awake_beh (W : World) (v : Value) (h : USeq W v L3) : Calls Tryz.prog 15 #[v, .slice (some ⟨W.heap.size + 1, 0, none⟩) 1 1, .int .i64 9] ((W.alloc (.cells #[.int .i64 5] 2)).alloc (.cells #[.slice (some ⟨W.heap.size, 0, none⟩) 1 1] 50)) fun e w' =>
    ∃ u, e = .returned (.tuple #[u, .int .i64 0]) ∧ USeq w' u [⟨0, 0, 9, 2⟩] ∧ Below W.heap.size W w' := by
  have h1 := nseq_one W 5 ⟨by decide, by decide⟩
  have hb1 : Below W.heap.size W ((W.alloc (.cells #[.int .i64 5] 2)).alloc (.cells #[.slice (some ⟨W.heap.size, 0, none⟩) 1 1] 50)) := ((Below.refl _ _).alloc (Nat.le_refl _) _).alloc (by simp) _
  refine (behind_any v _ L3 [[5]] 9 _ (h.kept hb1) (by decide) (by unfold L3 DuIn In64; decide) h1 (by decide)).mono ?_
  rintro e w' ⟨hb, ⟨hm, _⟩ | ⟨_, hm, _⟩ | ⟨_, _, L, hp, _, ⟨out, u, ho, rfl, hU⟩ | ⟨ho, _⟩⟩⟩
  · exact absurd hm (by decide)
  · exact absurd hm (by decide)
  · rw [beh_two L hp] at ho
    injection ho with ho
    subst ho
    exact ⟨u, rfl, hU.seq, hb1.trans (hb.mono hb1.size)⟩
  · rw [beh_two L hp] at ho; cases ho
end Go.Proofs.YthocnlalahknjaaGreat.Dd
