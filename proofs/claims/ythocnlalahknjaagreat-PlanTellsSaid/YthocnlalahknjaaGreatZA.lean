/- The program's dues are the reference's (plain). -/
import Derived.Test.YthocnlalahknjaaGreatBC
import Derived.Test.YthocnlalahknjaaGreatSC
namespace Go.Proofs.YthocnlalahknjaaGreat.Dd
set_option linter.unusedVariables false

theorem sorted_eq {R : Du → Du → Prop} (hi : ∀ a, ¬ R a a) (ha : ∀ a b, R a b → ¬ R b a) : ∀ (L M : List Du), L.Pairwise R → M.Pairwise R → (∀ x, x ∈ L ↔ x ∈ M) → L = M
  | [], [], _, _, _ => rfl
  | [], b :: s, _, _, h => absurd ((h b).2 (by simp)) (by simp)
  | a :: r, [], _, _, h => absurd ((h a).1 (by simp)) (by simp)
  | a :: r, b :: s, hL, hM, h => by
    rw [List.pairwise_cons] at hL hM
    have hab : a = b := by
      rcases List.mem_cons.1 ((h a).1 (by simp)) with e | e
      · exact e
      · rcases List.mem_cons.1 ((h b).2 (by simp)) with e2 | e2
        · exact e2.symm
        · exact absurd (hM.1 a e) (ha _ _ (hL.1 b e2))
    subst hab
    rw [sorted_eq hi ha r s hL.2 hM.2 fun x => ⟨fun hx => by
      rcases List.mem_cons.1 ((h x).1 (List.mem_cons_of_mem _ hx)) with e | e
      · subst e; exact absurd (hL.1 x hx) (hi x)
      · exact e, fun hx => by
      rcases List.mem_cons.1 ((h x).2 (List.mem_cons_of_mem _ hx)) with e | e
      · subst e; exact absurd (hM.1 x hx) (hi x)
      · exact e⟩]
theorem byAcc_lt {a b : Du} : byAcc a b < 0 ↔ a.m < b.m ∨ (a.m = b.m ∧ a.c < b.c) := by
  unfold byAcc orOf Lib.compareInt
  repeat' split
  all_goals omega
theorem byTk_lt {a b : Du} : byTk a b < 0 ↔ a.t < b.t ∨ (a.t = b.t ∧ (a.m < b.m ∨ (a.m = b.m ∧ a.c < b.c))) := by
  have h := byAcc_lt (a := a) (b := b)
  unfold byTk
  generalize byAcc a b = z at *
  unfold orOf Lib.compareInt
  repeat' split
  all_goals omega
def ltA (a b : Du) : Prop := a.m < b.m ∨ (a.m = b.m ∧ a.c < b.c)
def ltT (a b : Du) : Prop := a.t < b.t ∨ (a.t = b.t ∧ (a.m < b.m ∨ (a.m = b.m ∧ a.c < b.c)))
theorem dueO_mem {zs : List Int} {i m c : Nat} {x : Int} {d : Du} : d ∈ dueO zs i m c x ↔ x < 0 ∧ 0 < (shares (-x) (List.replicate zs.length 1)).getD i 0 ∧ d = ⟨m, c, zs.getD i 0, (shares (-x) (List.replicate zs.length 1)).getD i 0⟩ := by
  unfold dueO dueAt
  by_cases hx : x < 0
  · rw [if_pos hx]
    by_cases hs : 0 < (shares (-x) (List.replicate zs.length 1)).getD i 0
    · rw [if_pos hs]
      show d ∈ [_] ↔ _
      rw [List.mem_singleton]
      exact ⟨fun h => ⟨hx, hs, h⟩, fun h => h.2.2⟩
    · rw [if_neg hs]
      show d ∈ [] ↔ _
      exact ⟨fun h => (by cases h), fun h => absurd h.2.1 hs⟩
  · rw [if_neg hx]
    exact ⟨fun h => (by cases h), fun h => absurd h.1 hx⟩
theorem schO_mem {zs : List Int} {rows : List (List Int)} {d : Du} : d ∈ schO zs rows zs.length ↔ ∃ i, i < zs.length ∧ ∃ m, m < rows.length ∧ ∃ c, c < (rows.getD m []).length ∧ d ∈ dueO zs i m c ((rows.getD m []).getD c 0) := by
  unfold schO matO rowO
  simp only [List.mem_flatMap, List.mem_range]
theorem allD_iff {zs : List Int} {rows : List (List Int)} {d : Du} : d ∈ allD zs rows rows.length ↔ ∃ m, m < rows.length ∧ ∃ c, c < (rows.getD m []).length ∧ (rows.getD m []).getD c 0 < 0 ∧ d ∈ duesOf m c ((rows.getD m []).getD c 0) zs := by
  unfold allD rowD
  simp only [List.mem_flatMap, List.mem_range]
  constructor
  · rintro ⟨m, hm, c, hc, hd⟩
    refine ⟨m, hm, c, hc, ?_⟩
    split at hd
    · rename_i hx; exact ⟨hx, hd⟩
    · cases hd
  · rintro ⟨m, hm, c, hc, hx, hd⟩
    exact ⟨m, hm, c, hc, by rw [if_pos hx]; exact hd⟩
theorem sch_same_mem {zs : List Int} {rows : List (List Int)} (d : Du) : d ∈ allD zs rows rows.length ↔ d ∈ schO zs rows zs.length := by
  rw [allD_iff, schO_mem]
  constructor
  · rintro ⟨m, hm, c, hc, hx, hd⟩
    unfold duesOf at hd
    obtain ⟨i, hi, hs, rfl⟩ := duesUp_mem.1 hd
    exact ⟨i, hi, m, hm, c, hc, dueO_mem.2 ⟨hx, hs, rfl⟩⟩
  · rintro ⟨i, hi, m, hm, c, hc, hd⟩
    obtain ⟨hx, hs, rfl⟩ := dueO_mem.1 hd
    refine ⟨m, hm, c, hc, hx, ?_⟩
    unfold duesOf
    exact duesUp_mem.2 ⟨i, hi, hs, rfl⟩
theorem range_pair {R : Nat → Nat → Prop} (n : Nat) (h : ∀ i j, i < j → j < n → R i j) : (List.range n).Pairwise R := by
  rw [List.pairwise_iff_getElem]
  intro i j hi hj hij
  rw [List.getElem_range, List.getElem_range]
  exact h i j hij (by simpa using hj)
theorem schO_sorted {zs : List Int} {rows : List (List Int)} (hD : mayD zs = true) : (schO zs rows zs.length).Pairwise ltT := by
  have hr := (mayD_rise hD).2.2.1
  unfold schO
  rw [List.pairwise_flatMap]
  refine ⟨fun i hi => ?_, range_pair _ fun i j hij hj x hx y hy => ?_⟩
  · unfold matO
    rw [List.pairwise_flatMap]
    refine ⟨fun m hm => ?_, range_pair _ fun m m' hmm hm' x hx y hy => ?_⟩
    · unfold rowO
      rw [List.pairwise_flatMap]
      refine ⟨fun c hc => ?_, range_pair _ fun c c' hcc hc' x hx y hy => ?_⟩
      · have hl := dueO_le zs i m c ((rows.getD m []).getD c 0)
        match h : dueO zs i m c ((rows.getD m []).getD c 0), hl with
        | [], _ => exact List.Pairwise.nil
        | [d], _ => exact List.pairwise_singleton _ _
        | a :: b :: r, hl => simp at hl
      · obtain ⟨_, _, rfl⟩ := dueO_mem.1 hx
        obtain ⟨_, _, rfl⟩ := dueO_mem.1 hy
        exact .inr ⟨rfl, .inr ⟨rfl, by show (c : Int) < (c' : Int); omega⟩⟩
    · unfold rowO at hx hy
      obtain ⟨c, _, hx⟩ := List.mem_flatMap.1 hx
      obtain ⟨c', _, hy⟩ := List.mem_flatMap.1 hy
      obtain ⟨_, _, rfl⟩ := dueO_mem.1 hx
      obtain ⟨_, _, rfl⟩ := dueO_mem.1 hy
      exact .inr ⟨rfl, .inl (by show (m : Int) < (m' : Int); omega)⟩
  · unfold matO rowO at hx hy
    obtain ⟨m, _, hx⟩ := List.mem_flatMap.1 hx
    obtain ⟨c, _, hx⟩ := List.mem_flatMap.1 hx
    obtain ⟨m', _, hy⟩ := List.mem_flatMap.1 hy
    obtain ⟨c', _, hy⟩ := List.mem_flatMap.1 hy
    obtain ⟨_, _, rfl⟩ := dueO_mem.1 hx
    obtain ⟨_, _, rfl⟩ := dueO_mem.1 hy
    exact .inl (hr i j hij hj)
def keyNe (a b : Du) : Prop := ¬ (a.t = b.t ∧ a.m = b.m ∧ a.c = b.c)
theorem allD_keys {zs : List Int} {rows : List (List Int)} (hD : mayD zs = true) : (allD zs rows rows.length).Pairwise keyNe := by
  have hsame : ∀ {m c x}, x < 0 → ∀ d ∈ duesOf m c x zs, d.m = m ∧ d.c = c := fun hx d hd => by
    obtain ⟨e1, e2, _⟩ := (duesOf_facts hD hx).2.2.2 d hd; exact ⟨e1, e2⟩
  unfold allD
  rw [List.pairwise_flatMap]
  refine ⟨fun m hm => ?_, range_pair _ fun m m' hmm hm' x hx y hy => ?_⟩
  · unfold rowD
    rw [List.pairwise_flatMap]
    refine ⟨fun c hc => ?_, range_pair _ fun c c' hcc hc' x hx y hy => ?_⟩
    · split
      · rename_i hx
        exact (duesOf_facts hD hx).2.2.1.imp fun h e => by have := e.1; omega
      · exact List.Pairwise.nil
    · split at hx
      · split at hy
        · rename_i h1 h2
          have e1 := hsame h1 x hx
          have e2 := hsame h2 y hy
          intro e
          have := e.2.2
          rw [e1.2, e2.2] at this
          omega
        · cases hy
      · cases hx
  · obtain ⟨c, _, h1, hx⟩ := rowD_mem hx
    obtain ⟨c', _, h2, hy⟩ := rowD_mem hy
    have e1 := hsame h1 x hx
    have e2 := hsame h2 y hy
    intro e
    have := e.2.1
    rw [e1.1, e2.1] at this
    omega
theorem sch_same {zs : List Int} {rows : List (List Int)} {L : List Du} (hD : mayD zs = true) (hp : L.Perm (allD zs rows rows.length)) (ho : InOrder byTk L) : L = schO zs rows zs.length := by
  have hk : L.Pairwise keyNe := (hp.pairwise_iff (fun {a b} h e => h ⟨e.1.symm, e.2.1.symm, e.2.2.symm⟩)).2 (allD_keys hD)
  have hL : L.Pairwise ltT := by
    have hb : L.Pairwise fun a b => (¬ byTk b a < 0) ∧ keyNe a b := List.pairwise_and_iff.2 ⟨ho, hk⟩
    refine hb.imp fun {a b} h => ?_
    have h1 := h.1
    have h2 := h.2
    rw [byTk_lt] at h1
    unfold keyNe at h2
    unfold ltT
    omega
  refine sorted_eq (R := ltT) (fun a h => ?_) (fun a b h h2 => ?_) L _ hL (schO_sorted hD) fun x => by rw [hp.mem_iff, sch_same_mem]
  · unfold ltT at h; omega
  · unfold ltT at h h2; omega
/-- the sums of accounts -/
theorem sumD_is (l : List Du) (now : Int) (m c : Nat) : ∀ k, sumD l now m c k = sumK (ofNow (l.take k) now) m c
  | 0 => by simp [sumD, ofNow, sumK, ofAcc]; rfl
  | k + 1 => by
    by_cases hk : k < l.length
    · rw [sumD_succ hk, sumD_is l now m c k]
      by_cases ht : l[k].t ≤ now
      · rw [ofNow_yes hk ht]
        unfold sumK ofAcc
        rw [List.filter_append, sumN_app]
        by_cases hkey : l[k].m = (m : Int) ∧ l[k].c = (c : Int)
        · rw [if_pos ⟨ht, hkey⟩]
          have e : List.filter (fun d : Du => decide (d.m = (m : Int)) && decide (d.c = (c : Int))) [l[k]] = [l[k]] := by simp [hkey.1, hkey.2]
          rw [e]
          show _ = _ + (l[k].n + 0)
          omega
        · rw [if_neg (fun h => hkey h.2)]
          have e : List.filter (fun d : Du => decide (d.m = (m : Int)) && decide (d.c = (c : Int))) [l[k]] = [] := by
            rw [List.filter_cons, if_neg, List.filter_nil]
            simpa using hkey
          rw [e]
          show _ = _ + 0
          omega
      · rw [if_neg (fun h => ht h.1), ofNow_no hk ht]
    · have h1 := sumD_is l now m c k
      unfold sumD at h1 ⊢
      rw [List.take_of_length_le (by omega)] at h1 ⊢
      exact h1
theorem most_of {l : List Du} {now : Int} : ∀ (k : Nat) (j : Nat) (hj : j < l.length), j < k → l[j].t ≤ now → l[j].m ≤ mostL l now k ∧ l[j].c ≤ wideL l now k
  | 0, j, hj, h, _ => by omega
  | k + 1, j, hj, h, ht => by
    by_cases hk : k < l.length
    · rw [mostL_succ hk, wideL_succ hk]
      by_cases e : j = k
      · subst e; rw [if_pos ht, if_pos ht]; omega
      · have := most_of k j hj (by omega) ht
        constructor <;> split <;> omega
    · have := most_of k j hj (by omega) ht
      unfold mostL wideL at *
      rw [List.take_of_length_le (by omega)] at *
      exact this
theorem behM_mem {l : List Du} {now : Int} {rows : List (List Int)} {W M : Nat} {e : Du} : e ∈ behM l now rows W M ↔ ∃ m, m < M ∧ ∃ c, c < W ∧ 0 < sumD l now m c l.length - payOf rows m c ∧ e = ⟨m, c, now, sumD l now m c l.length - payOf rows m c⟩ := by
  unfold behM behR
  simp only [List.mem_flatMap, List.mem_range]
  have key : ∀ m c, e ∈ behC l now rows m c ↔ 0 < sumD l now m c l.length - payOf rows m c ∧ e = ⟨m, c, now, sumD l now m c l.length - payOf rows m c⟩ := fun m c => by
    unfold behC
    split
    · rename_i h
      rw [List.mem_singleton]
      exact ⟨fun h2 => ⟨h, h2⟩, fun h2 => h2.2⟩
    · rename_i h
      exact ⟨fun h2 => (by cases h2), fun h2 => absurd h2.1 h⟩
  simp only [key]
theorem behM_sorted {l : List Du} {now : Int} {rows : List (List Int)} {W M : Nat} : (behM l now rows W M).Pairwise ltA := by
  have key : ∀ m c (e : Du), e ∈ behC l now rows m c → e.m = m ∧ e.c = c := fun m c e h => by
    unfold behC at h
    split at h
    · simp at h; rw [h]; exact ⟨rfl, rfl⟩
    · cases h
  unfold behM
  rw [List.pairwise_flatMap]
  refine ⟨fun m hm => ?_, range_pair _ fun m m' hmm hm' x hx y hy => ?_⟩
  · unfold behR
    rw [List.pairwise_flatMap]
    refine ⟨fun c hc => ?_, range_pair _ fun c c' hcc hc' x hx y hy => ?_⟩
    · unfold behC
      split
      · exact List.pairwise_singleton _ _
      · exact List.Pairwise.nil
    · have e1 := key _ _ _ hx
      have e2 := key _ _ _ hy
      unfold ltA
      rw [e1.1, e1.2, e2.1, e2.2]
      omega
  · unfold behR at hx hy
    obtain ⟨c, _, hx⟩ := List.mem_flatMap.1 hx
    obtain ⟨c', _, hy⟩ := List.mem_flatMap.1 hy
    have e1 := key _ _ _ hx
    have e2 := key _ _ _ hy
    unfold ltA
    rw [e1.1, e1.2, e2.1, e2.2]
    omega
/-- who is behind: the same, or an overflow in both -/
theorem beh_same {l L : List Du} {now : Int} {rows : List (List Int)} (hw : l.any Du.wrong = false) (hp : L.Perm (ofNow l now)) (ho : InOrder byAcc L) :
    (behL rows now L.length L = none ∧ ∃ m c, m < (mostL l now l.length).toNat + 1 ∧ c < (wideL l now l.length).toNat + 1 ∧ ¬ Amt (sumD l now m c l.length)) ∨
    ((∀ m c : Nat, m < (mostL l now l.length).toNat + 1 → c < (wideL l now l.length).toNat + 1 → Amt (sumD l now m c l.length)) ∧ behL rows now L.length L = some (behM l now rows ((wideL l now l.length).toNat + 1) ((mostL l now l.length).toNat + 1))) := by
  have hok : ∀ d ∈ l, 0 ≤ d.m ∧ 0 ≤ d.c ∧ 1 ≤ d.n := fun d hd => by
    rw [List.any_eq_false] at hw
    have := hw d hd
    unfold Du.wrong at this
    simp only [Bool.not_eq_true, Bool.or_eq_false_iff, decide_eq_false_iff_not] at this
    omega
  have hsum : ∀ m c : Nat, sumD l now m c l.length = sumK L m c := fun m c => by
    rw [sumD_is, List.take_length, sumK_perm hp]
  have hnn : ∀ m c : Nat, 0 ≤ sumD l now m c l.length := fun m c => sumD_nonneg now m c (fun d hd => (hok d hd).2.2) _
  have hkey : ∀ d ∈ L, ∃ m c : Nat, d.m = m ∧ d.c = c ∧ m < (mostL l now l.length).toNat + 1 ∧ c < (wideL l now l.length).toNat + 1 := fun d hd => by
    obtain ⟨h1, h2⟩ := List.mem_filter.1 (hp.mem_iff.1 hd)
    have h2 := of_decide_eq_true h2
    obtain ⟨j, hj, rfl⟩ := List.mem_iff_getElem.1 h1
    obtain ⟨o1, o2, _⟩ := hok _ (List.getElem_mem hj)
    obtain ⟨b1, b2⟩ := most_of l.length j hj hj h2
    exact ⟨l[j].m.toNat, l[j].c.toNat, by omega, by omega, by omega, by omega⟩
  have hno : ∀ m c : Nat, (∀ d ∈ L, ¬ (d.m = m ∧ d.c = c)) → sumK L m c = 0 := fun m c h => by
    unfold sumK ofAcc
    rw [List.filter_eq_nil_iff.2 fun d hd => by simpa using h d hd]
    rfl
  rcases behL_spec rows now L.length L (Nat.le_refl _) ho with ⟨⟨d, hd, hs⟩, hn⟩ | ⟨hall, out, hn, hpw, hmem⟩
  · obtain ⟨m, c, e1, e2, h1, h2⟩ := hkey d hd
    rw [e1, e2] at hs
    exact .inl ⟨hn, m, c, h1, h2, by unfold Amt; rw [hsum]; omega⟩
  · refine .inr ⟨fun m c h1 h2 => ?_, ?_⟩
    · have h0 := hnn m c
      rw [hsum] at h0 ⊢
      by_cases hex : ∃ d ∈ L, d.m = m ∧ d.c = c
      · obtain ⟨d, hd, e1, e2⟩ := hex
        have := hall d hd
        rw [e1, e2] at this
        unfold Amt; omega
      · rw [hno m c fun d hd e => hex ⟨d, hd, e⟩]; unfold Amt; omega
    · rw [hn]
      congr 1
      refine sorted_eq (R := ltA) (fun a h => ?_) (fun a b h h2 => ?_) _ _ (hpw.imp fun h => byAcc_lt.1 h) behM_sorted fun e => ?_
      · unfold ltA at h; omega
      · unfold ltA at h h2; omega
      · rw [hmem, behM_mem]
        constructor
        · rintro ⟨d, hd, e1, e2, e3, e4, e5⟩
          obtain ⟨m, c, k1, k2, h1, h2⟩ := hkey d hd
          have em : e.m = m := by rw [← e1]; exact k1
          have ec : e.c = c := by rw [← e2]; exact k2
          rw [em, ec, Int.toNat_natCast, Int.toNat_natCast, ← hsum] at e4
          refine ⟨m, h1, c, h2, by omega, ?_⟩
          obtain ⟨x1, x2, x3, x4⟩ := e
          simp only at em ec e3 e4
          rw [em, ec, e3, e4]
        · rintro ⟨m, h1, c, h2, hpos, rfl⟩
          have hp0 := payOf_nonneg rows m c
          have hex : ∃ d ∈ L, d.m = m ∧ d.c = c := by
            apply Classical.byContradiction
            intro hne
            have := hno m c fun d hd e => hne ⟨d, hd, e⟩
            rw [← hsum] at this
            omega
          obtain ⟨d, hd, e1, e2⟩ := hex
          exact ⟨d, hd, e1, e2, rfl, by simp only [Int.toNat_natCast]; rw [← hsum], hpos⟩
end Go.Proofs.YthocnlalahknjaaGreat.Dd
