/- What is true of the dues that Schedule hands back (plain). -/
import Derived.Test.YthocnlalahknjaaGreatQWE
namespace Go.Proofs.YthocnlalahknjaaGreat.Dd
set_option linter.unusedVariables false

theorem many_iff {rows : List (List Int)} (h : manyN rows = false) : rows.length ≤ 16 ∧ ∀ r ∈ rows, r.length ≤ 8 := by
  unfold manyN at h
  simp only [Bool.or_eq_false_iff, decide_eq_false_iff_not, List.any_eq_false, decide_eq_true_eq] at h
  exact ⟨by omega, fun r hr => by have := h.2 r hr; omega⟩
theorem over_iff {rows : List (List Int)} (h : overN rows = false) (hz : ∀ r ∈ rows, ∀ x ∈ r, Amt x) : ∀ r ∈ rows, ∀ x ∈ r, -9223372036854775808 < x := fun r hr x hx => by
  unfold overN at h
  rw [List.any_eq_false] at h
  have h1 := h r hr
  rw [Bool.not_eq_true, List.any_eq_false] at h1
  have h2 := h1 x hx
  have h3 := hz r hr x hx
  unfold Amt at h3
  simp only [decide_eq_true_eq] at h2
  omega
/-- the amounts of an account among the first k dues -/
def amL (L : List Du) (m c k : Nat) : List Int := (ofAcc (L.take k) m c).map (·.n)
theorem ofAcc_yes {L : List Du} {m c : Int} {k : Nat} (hk : k < L.length) (h : L[k].m = m ∧ L[k].c = c) : ofAcc (L.take (k + 1)) m c = ofAcc (L.take k) m c ++ [L[k]] := by
  rw [List.take_succ_eq_append_getElem hk]; unfold ofAcc; rw [List.filter_append]; simp [h.1, h.2]
theorem ofAcc_no {L : List Du} {m c : Int} {k : Nat} (hk : k < L.length) (h : ¬ (L[k].m = m ∧ L[k].c = c)) : ofAcc (L.take (k + 1)) m c = ofAcc (L.take k) m c := by
  rw [List.take_succ_eq_append_getElem hk]; unfold ofAcc; rw [List.filter_append]
  have e : List.filter (fun d : Du => decide (d.m = m) && decide (d.c = c)) [L[k]] = [] := by
    rw [List.filter_cons, if_neg, List.filter_nil]
    simpa using h
  rw [e, List.append_nil]
theorem entry_mem {rows : List (List Int)} {m c : Nat} (hm : m < rows.length) (hc : c < (rows.getD m []).length) : ∃ r ∈ rows, (rows.getD m []) = r ∧ (rows.getD m []).getD c 0 ∈ r := by
  have e1 : rows.getD m [] = rows[m] := by rw [List.getD_eq_getElem?_getD, List.getElem?_eq_getElem hm]; rfl
  refine ⟨rows[m], List.getElem_mem hm, e1, ?_⟩
  rw [e1] at hc ⊢
  rw [List.getD_eq_getElem?_getD, List.getElem?_eq_getElem hc]
  exact List.getElem_mem _
section
variable {zs : List Int} {rows : List (List Int)} {L : List Du}
/-- what Schedule hands back -/
structure Sch (zs : List Int) (rows : List (List Int)) (L : List Du) : Prop where
  hD : mayD zs = true
  hp : L.Perm (allD zs rows rows.length)
  ho : InOrder byTk L
  hx : ∀ r ∈ rows, ∀ x ∈ r, -9223372036854775808 < x
  hz : ∀ r ∈ rows, ∀ x ∈ r, Amt x
  m16 : rows.length ≤ 16
  h8 : ∀ r ∈ rows, r.length ≤ 8
theorem Sch.len (h : Sch zs rows L) : L.length ≤ 4096 := by
  have h1 := h.hp.length_eq
  have h2 := allD_le zs rows h.h8 (mayD_rise h.hD).2.1 rows.length
  have := h.m16
  omega
theorem Sch.mem (h : Sch zs rows L) {d : Du} (hd : d ∈ L) : ∃ m c : Nat, m < rows.length ∧ c < (rows.getD m []).length ∧ d.m = m ∧ d.c = c ∧ (rows.getD m []).getD c 0 < 0 ∧ 1 ≤ d.n ∧ d.n ≤ 9223372036854775807 ∧ d.t ∈ zs := by
  obtain ⟨m, c, a1, a2, a3, a4, a5, a6, a7, a8⟩ := sched_mem h.hD h.hp hd
  obtain ⟨r, hr, _, hm⟩ := entry_mem a1 a2
  have := h.hx r hr _ hm
  exact ⟨m, c, a1, a2, a4, a5, a3, a6, by omega, a8⟩
theorem Sch.sum (h : Sch zs rows L) {m c : Nat} (hm : m < rows.length) (hc : c < (rows.getD m []).length) : sumK L m c = max (-((rows.getD m []).getD c 0)) 0 := by
  unfold sumK
  rw [sched_acc h.hD h.hp h.ho m c]
  by_cases hx : (rows.getD m []).getD c 0 < 0
  · rw [if_pos ⟨hm, hc, hx⟩, (duesOf_facts h.hD hx).1]; omega
  · rw [if_neg (fun e => hx e.2.2)]
    have : sumN [] = 0 := rfl
    omega
theorem Sch.sum_le (h : Sch zs rows L) {m c : Nat} (hm : m < rows.length) (hc : c < (rows.getD m []).length) : sumK L m c ≤ 9223372036854775807 := by
  rw [h.sum hm hc]
  obtain ⟨r, hr, _, hm⟩ := entry_mem hm hc
  have := h.hx r hr _ hm
  omega
theorem Sch.fil (h : Sch zs rows L) {m c : Nat} (hm : m < rows.length) (hc : c < (rows.getD m []).length) : Fil L m c (amL L m c) (max (-((rows.getD m []).getD c 0)) 0) := by
  have hacc := sched_acc h.hD h.hp h.ho m c
  have hpw : (ofAcc L m c).Pairwise (fun a b => b.n ≤ a.n) := by
    rw [hacc]
    split
    · rename_i hx; exact (duesOf_facts h.hD hx.2.2).2.1
    · exact List.Pairwise.nil
  refine ⟨rfl, fun k => ?_, fun k hk hkm hkc => ?_, fun k hk hn => ?_, fun x hx => ?_, ?_⟩
  · unfold amL
    rw [List.length_map]
    exact Nat.le_trans (List.length_filter_le _ _) (by rw [List.length_take]; omega)
  · have hy := ofAcc_yes hk ⟨hkm, hkc⟩
    refine ⟨by unfold amL; rw [hy, List.map_append]; rfl, ?_, fun q hq => ?_⟩
    · obtain ⟨_, _, _, _, _, _, _, h1, _⟩ := h.mem (List.getElem_mem hk); exact h1
    · have hsub : (ofAcc (L.take (k + 1)) m c).Sublist (ofAcc L m c) := (List.take_sublist _ _).filter _
      have h2 := hpw.sublist hsub
      rw [hy, List.pairwise_append] at h2
      have h3 := h2.2.2
      have hqq : q < (ofAcc (L.take k) m c).length := by unfold amL at hq; rw [List.length_map] at hq; omega
      have h4 := h3 (ofAcc (L.take k) m c)[q] (List.getElem_mem _) L[k] (by simp)
      unfold amL
      rw [List.getD_eq_getElem?_getD, List.getElem?_map, List.getElem?_eq_getElem hqq]
      exact h4
  · unfold amL; rw [ofAcc_no hk hn]
  · unfold amL at hx
    rw [List.take_length] at hx
    obtain ⟨d, hd, rfl⟩ := List.mem_map.1 hx
    have hdL : d ∈ L := (List.mem_filter.1 hd).1
    obtain ⟨_, _, _, _, _, _, _, h1, h2, _⟩ := h.mem hdL
    unfold Amt; omega
  · have := h.sum hm hc
    unfold sumK sumN at this
    unfold amL
    rw [List.take_length]
    exact this
theorem byTk_le {a b : Du} (h : ¬ byTk b a < 0) : a.t ≤ b.t := by
  unfold byTk orOf at h
  by_cases hlt : b.t < a.t
  · exfalso
    have : Lib.compareInt b.t a.t = -1 := by unfold Lib.compareInt; rw [if_pos hlt]
    rw [this] at h
    simp at h
  · omega
theorem Sch.rise (h : Sch zs rows L) (k j : Nat) (hj : k = j + 1) (hk : k < L.length) : (L[j]'(by omega)).t ≤ L[k].t :=
  byTk_le (List.pairwise_iff_getElem.1 h.ho j k (by omega) hk (by omega))
theorem sumN_sub {a b : List Du} (h : a.Sublist b) (hn : ∀ d ∈ b, 0 ≤ d.n) : sumN a ≤ sumN b := by
  induction h with
  | slnil => exact Int.le_refl _
  | cons x _ ih =>
    have h1 := hn x (by simp)
    have h2 := ih fun d hd => hn d (List.mem_cons_of_mem _ hd)
    rename_i l1 l2 _
    have : sumN (x :: l2) = x.n + sumN l2 := rfl
    omega
  | cons_cons x _ ih =>
    have h2 := ih fun d hd => hn d (List.mem_cons_of_mem _ hd)
    rename_i l1 l2 _
    have e1 : sumN (x :: l1) = x.n + sumN l1 := rfl
    have e2 : sumN (x :: l2) = x.n + sumN l2 := rfl
    omega
theorem rowsP_get {m : Nat} (hm : m < rows.length) : (rowsP rows rows.length).getD m [] = rowP (rows.getD m []) := by
  unfold rowsP
  rw [List.getD_eq_getElem?_getD, List.getElem?_map, List.getElem?_range hm]; rfl
theorem rowP_get {row : List Int} {c : Nat} (hc : c < row.length) : (rowP row).getD c 0 = max (-(row.getD c 0)) 0 := by
  unfold rowP
  rw [List.getD_eq_getElem?_getD, List.getElem?_map, List.getElem?_range hc]; rfl
theorem rowP_len (row : List Int) : (rowP row).length = row.length := by simp [rowP]
theorem Sch.keys (h : Sch zs rows L) {L' : List Du} {now : Int} (hp : L'.Perm (ofNow L now)) (m c : Nat) : sumK L' m c ≤ sumK L m c := by
  rw [sumK_perm hp]
  unfold sumK ofNow
  refine sumN_sub (List.filter_sublist.filter _) fun d hd => ?_
  obtain ⟨_, _, _, _, _, _, _, h1, _⟩ := h.mem (List.mem_filter.1 hd).1
  omega
/-- who paid all is not behind -/
theorem Sch.paid (h : Sch zs rows L) {L' : List Du} {now : Int} (hp : L'.Perm (ofNow L now)) (ho : InOrder byAcc L') : behL (rowsP rows rows.length) now L'.length L' = some [] := by
  have hk : ∀ d ∈ L', ∃ m c : Nat, m < rows.length ∧ c < (rows.getD m []).length ∧ d.m = m ∧ d.c = c := fun d hd => by
    have := (List.mem_filter.1 (hp.mem_iff.1 hd)).1
    obtain ⟨m, c, a1, a2, a3, a4, _⟩ := h.mem this
    exact ⟨m, c, a1, a2, a3, a4⟩
  rcases behL_spec (rowsP rows rows.length) now L'.length L' (Nat.le_refl _) ho with ⟨⟨d, hd, hs⟩, _⟩ | ⟨_, out, ho2, _, hmem⟩
  · exfalso
    obtain ⟨m, c, a1, a2, a3, a4⟩ := hk d hd
    rw [a3, a4] at hs
    have := h.keys hp m c
    have := h.sum_le a1 a2
    omega
  · rw [ho2]
    congr 1
    apply Classical.byContradiction
    intro hne
    obtain ⟨e, he⟩ := List.exists_mem_of_ne_nil _ hne
    obtain ⟨d, hd, e1, e2, _, e4, e5⟩ := (hmem e).1 he
    obtain ⟨m, c, a1, a2, a3, a4⟩ := hk d hd
    rw [← e1, ← e2, a3, a4] at e4
    have h1 := h.keys hp m c
    have h2 := h.sum a1 a2
    unfold payOf at e4
    rw [Int.toNat_natCast, Int.toNat_natCast, rowsP_get a1, rowP_get a2] at e4
    omega
end
end Go.Proofs.YthocnlalahknjaaGreat.Dd
