/- What Schedule's dues are, account by account; no Go text. -/
import Derived.Test.YthocnlalahknjaaGreatQPS
import Derived.Test.YthocnlalahknjaaGreatQPQ
namespace Go.Proofs.YthocnlalahknjaaGreat.Dd
set_option linter.unusedVariables false

theorem rises_all : ∀ {zs : List Int} {a : Int}, rises a zs = true → zs.Pairwise (· < ·) ∧ ∀ z ∈ zs, a < z
  | [], _, _ => ⟨List.Pairwise.nil, fun z h => by cases h⟩
  | x :: r, a, h => by
    unfold rises at h
    rw [Bool.and_eq_true, decide_eq_true_eq] at h
    obtain ⟨h1, h2⟩ := rises_all h.2
    refine ⟨List.pairwise_cons.2 ⟨h2, h1⟩, fun z hz => ?_⟩
    rcases List.mem_cons.1 hz with rfl | hz
    · exact h.1
    · have := h2 z hz; omega
theorem mayD_rise {zs : List Int} (h : mayD zs = true) : 1 ≤ zs.length ∧ zs.length ≤ 16 ∧ (∀ i j, i < j → j < zs.length → zs.getD i 0 < zs.getD j 0) ∧ ∀ z ∈ zs, 0 ≤ z := by
  unfold mayD at h
  simp only [Bool.and_eq_true, decide_eq_true_eq] at h
  obtain ⟨⟨h1, h2⟩, h3⟩ := h
  obtain ⟨h4, h5⟩ := rises_all h3
  refine ⟨h1, h2, fun i j hij hj => ?_, fun z hz => by have := h5 z hz; omega⟩
  rw [List.getD_eq_getElem?_getD, List.getD_eq_getElem?_getD, List.getElem?_eq_getElem hj, List.getElem?_eq_getElem (by omega)]
  exact List.pairwise_iff_getElem.1 h4 i j (by omega) hj hij
theorem duesUp_mem {m c : Int} {zs sh : List Int} {k : Nat} {d : Du} : d ∈ duesUp m c zs sh k ↔ ∃ i, i < k ∧ 0 < sh.getD i 0 ∧ d = ⟨m, c, zs.getD i 0, sh.getD i 0⟩ := by
  unfold duesUp
  rw [List.mem_filterMap]
  constructor
  · rintro ⟨i, hi, h⟩
    unfold dueAt at h
    split at h
    · injection h with h
      exact ⟨i, List.mem_range.1 hi, by assumption, h.symm⟩
    · cases h
  · rintro ⟨i, hi, h1, rfl⟩
    exact ⟨i, List.mem_range.2 hi, by unfold dueAt; rw [if_pos h1]⟩
/-- what holds of two that stand one behind the other -/
theorem duesUp_pair {m c : Int} {zs sh : List Int} (R : Du → Du → Prop) : ∀ (k : Nat), (∀ i j, i < j → j < k → 0 < sh.getD i 0 → 0 < sh.getD j 0 → R ⟨m, c, zs.getD i 0, sh.getD i 0⟩ ⟨m, c, zs.getD j 0, sh.getD j 0⟩) → (duesUp m c zs sh k).Pairwise R
  | 0, _ => List.Pairwise.nil
  | k + 1, h => by
    have ih := duesUp_pair R k fun i j hij hj => h i j hij (by omega)
    by_cases hk : 0 < sh.getD k 0
    · rw [duesUp_yes hk]
      refine List.pairwise_append.2 ⟨ih, List.pairwise_singleton _ _, fun a ha b hb => ?_⟩
      obtain rfl := List.mem_singleton.1 hb
      obtain ⟨i, hi, h1, rfl⟩ := duesUp_mem.1 ha
      exact h i k hi (by omega) h1 hk
    · rw [duesUp_no hk]; exact ih
theorem sumN_app (a b : List Du) : sumN (a ++ b) = sumN a + sumN b := by unfold sumN; rw [List.map_append, sumL_append]
theorem sumL_take_succ (l : List Int) (k : Nat) : sumL (l.take (k + 1)) = sumL (l.take k) + l.getD k 0 := by
  by_cases h : k < l.length
  · rw [List.take_succ_eq_append_getElem h, sumL_append, List.getD_eq_getElem?_getD, List.getElem?_eq_getElem h]
    show _ + (l[k] + 0) = _ + l[k]
    omega
  · rw [List.take_of_length_le (by omega), List.take_of_length_le (by omega), List.getD_eq_getElem?_getD, List.getElem?_eq_none (by omega)]
    show _ = _ + (0 : Int)
    omega
theorem duesUp_sum {m c : Int} {zs sh : List Int} (h0 : ∀ i, 0 ≤ sh.getD i 0) : ∀ k, sumN (duesUp m c zs sh k) = sumL (sh.take k)
  | 0 => rfl
  | k + 1 => by
    rw [sumL_take_succ, ← duesUp_sum (m := m) (c := c) (zs := zs) h0 k]
    by_cases hk : 0 < sh.getD k 0
    · rw [duesUp_yes hk, sumN_app]
      show _ + (sh.getD k 0 + 0) = _
      omega
    · rw [duesUp_no hk]; have := h0 k; omega
theorem ones_mem {n : Nat} {z : Int} (h : z ∈ List.replicate n (1 : Int)) : z = 1 := (List.mem_replicate.1 h).2
/-- the shares of a net below 0 -/
theorem even_facts {x : Int} {n : Nat} (hx : x < 0) (h1 : 1 ≤ n) :
    (∀ i, 0 ≤ (shares (-x) (List.replicate n 1)).getD i 0 ∧ (shares (-x) (List.replicate n 1)).getD i 0 ≤ -x) ∧ sumL (shares (-x) (List.replicate n 1)) = -x ∧
    (∀ i j, i < j → j < n → (shares (-x) (List.replicate n 1)).getD j 0 ≤ (shares (-x) (List.replicate n 1)).getD i 0) := by
  have hS : 1 ≤ sumL (List.replicate n 1) := by rw [sum_ones]; omega
  have hz : ∀ z ∈ List.replicate n (1 : Int), 0 ≤ z := fun z h => by rw [ones_mem h]; decide
  refine ⟨fun i => ?_, sum_shares (-x) _ hS, fun i j hij hj => ?_⟩
  · by_cases hi : i < n
    · have h2 := share_bd (-x) _ (by omega) hS hz i (by simpa using hi)
      rw [shares_at _ _ _ (by simpa using hi)]
      exact ⟨h2.1, h2.2.1⟩
    · rw [List.getD_eq_getElem?_getD, List.getElem?_eq_none (by rw [shares_len, List.length_replicate]; omega)]
      show (0 : Int) ≤ 0 ∧ (0 : Int) ≤ -x
      omega
  · have h2 := share_pair (-x) _ (by omega) hS hz i j (by simp; omega) (by simpa using hj)
    rw [shares_at _ _ i (by rw [List.length_replicate]; omega), shares_at _ _ j (by rw [List.length_replicate]; omega)]
    refine (h2.2 ?_).2 hij
    simp [List.getD_eq_getElem?_getD, show i < n by omega, hj]
theorem duesOf_facts {m c x : Int} {zs : List Int} (hD : mayD zs = true) (hx : x < 0) :
    sumN (duesOf m c x zs) = -x ∧ (duesOf m c x zs).Pairwise (fun a b => b.n ≤ a.n) ∧ (duesOf m c x zs).Pairwise (fun a b => a.t < b.t) ∧
    ∀ d ∈ duesOf m c x zs, d.m = m ∧ d.c = c ∧ 1 ≤ d.n ∧ d.n ≤ -x ∧ d.t ∈ zs := by
  obtain ⟨h1, h16, hr, hz0⟩ := mayD_rise hD
  obtain ⟨e1, e2, e3⟩ := even_facts hx h1
  refine ⟨?_, duesUp_pair _ _ fun i j hij hj _ _ => e3 i j hij hj, duesUp_pair _ _ fun i j hij hj _ _ => hr i j hij hj, fun d hd => ?_⟩
  · unfold duesOf
    rw [duesUp_sum (fun i => (e1 i).1), List.take_of_length_le (by rw [shares_len, List.length_replicate]; exact Nat.le_refl _)]
    exact e2
  · obtain ⟨i, hi, h2, rfl⟩ := duesUp_mem.1 hd
    refine ⟨rfl, rfl, h2, (e1 i).2, ?_⟩
    show zs.getD i 0 ∈ zs
    rw [List.getD_eq_getElem?_getD, List.getElem?_eq_getElem hi]; exact List.getElem_mem _
theorem duesOf_order {m c x : Int} {zs : List Int} (hD : mayD zs = true) (hx : x < 0) : InOrder byTk (duesOf m c x zs) := by
  refine List.Pairwise.imp (fun {a b} h => ?_) (duesOf_facts (m := m) (c := c) hD hx).2.2.1
  rw [byTk_neg, byAcc_neg]; omega
/-- the dues of an account among all -/
theorem ofAcc_row (zs : List Int) (hD : mayD zs = true) (m : Nat) (row : List Int) (c : Nat) : ∀ k, ofAcc (rowD zs m row k) m c = if c < k ∧ row.getD c 0 < 0 then duesOf m c (row.getD c 0) zs else []
  | 0 => by simp [rowD, ofAcc]
  | k + 1 => by
    rw [rowD_succ]
    unfold ofAcc
    rw [List.filter_append]
    have ih := ofAcc_row zs hD m row c k
    unfold ofAcc at ih
    rw [ih]
    by_cases hk : c = k
    · subst hk
      rw [if_neg (by omega), List.nil_append]
      by_cases hx : row.getD c 0 < 0
      · rw [if_pos hx, if_pos ⟨by omega, hx⟩, List.filter_eq_self]
        intro d hd
        obtain ⟨e1, e2, _⟩ := (duesOf_facts hD hx).2.2.2 d hd
        simp [e1, e2]
      · rw [if_neg hx, if_neg (by omega)]; rfl
    · have h0 : (if row.getD k 0 < 0 then duesOf m k (row.getD k 0) zs else []).filter (fun d : Du => decide (d.m = (m : Int)) && decide (d.c = (c : Int))) = [] := by
        rw [List.filter_eq_nil_iff]
        intro d hd
        split at hd
        · obtain ⟨e1, e2, _⟩ := (duesOf_facts hD (by assumption)).2.2.2 d hd
          simp only [e2, Bool.and_eq_true, decide_eq_true_eq]
          omega
        · cases hd
      rw [h0, List.append_nil]
      by_cases hx : c < k ∧ row.getD c 0 < 0
      · rw [if_pos hx, if_pos ⟨by omega, hx.2⟩]
      · rw [if_neg hx, if_neg (by omega)]
theorem rowD_mem {zs : List Int} {m : Nat} {row : List Int} {d : Du} : ∀ {k : Nat}, d ∈ rowD zs m row k → ∃ c, c < k ∧ row.getD c 0 < 0 ∧ d ∈ duesOf m c (row.getD c 0) zs
  | 0, h => by simp [rowD] at h
  | k + 1, h => by
    rw [rowD_succ, List.mem_append] at h
    rcases h with h | h
    · obtain ⟨c, h1, h2⟩ := rowD_mem h; exact ⟨c, by omega, h2⟩
    · split at h
      · exact ⟨k, by omega, by assumption, h⟩
      · cases h
theorem allD_mem {zs : List Int} {rows : List (List Int)} {d : Du} : ∀ {k : Nat}, d ∈ allD zs rows k → ∃ m, m < k ∧ ∃ c, c < (rows.getD m []).length ∧ (rows.getD m []).getD c 0 < 0 ∧ d ∈ duesOf m c ((rows.getD m []).getD c 0) zs
  | 0, h => by simp [allD] at h
  | k + 1, h => by
    rw [allD_succ, List.mem_append] at h
    rcases h with h | h
    · obtain ⟨m, h1, h2⟩ := allD_mem h; exact ⟨m, by omega, h2⟩
    · exact ⟨k, by omega, rowD_mem h⟩
theorem ofAcc_all (zs : List Int) (hD : mayD zs = true) (rows : List (List Int)) (m c : Nat) : ∀ k, ofAcc (allD zs rows k) m c = if m < k ∧ c < (rows.getD m []).length ∧ (rows.getD m []).getD c 0 < 0 then duesOf m c ((rows.getD m []).getD c 0) zs else []
  | 0 => by simp [allD, ofAcc]
  | k + 1 => by
    have ih := ofAcc_all zs hD rows m c k
    have h2 := ofAcc_row zs hD k (rows.getD k []) c (rows.getD k []).length
    rw [allD_succ]
    have happ : ofAcc (allD zs rows k ++ rowD zs k (rows.getD k []) (rows.getD k []).length) m c = ofAcc (allD zs rows k) m c ++ ofAcc (rowD zs k (rows.getD k []) (rows.getD k []).length) m c := by unfold ofAcc; rw [List.filter_append]
    rw [happ, ih]
    by_cases hk : m = k
    · subst hk
      rw [if_neg (by omega), List.nil_append, h2]
      by_cases hx : c < (rows.getD m []).length ∧ (rows.getD m []).getD c 0 < 0
      · rw [if_pos hx, if_pos ⟨by omega, hx⟩]
      · rw [if_neg hx, if_neg (fun h => hx h.2)]
    · have h0 : ofAcc (rowD zs k (rows.getD k []) (rows.getD k []).length) m c = [] := by
        unfold ofAcc
        rw [List.filter_eq_nil_iff]
        intro d hd
        obtain ⟨c2, _, hx, hd2⟩ := rowD_mem hd
        obtain ⟨e1, _⟩ := (duesOf_facts hD hx).2.2.2 d hd2
        simp only [e1, Bool.and_eq_true, decide_eq_true_eq]
        omega
      rw [h0, List.append_nil]
      by_cases hx : m < k ∧ c < (rows.getD m []).length ∧ (rows.getD m []).getD c 0 < 0
      · rw [if_pos hx, if_pos ⟨by omega, hx.2⟩]
      · rw [if_neg hx, if_neg (fun h => hx ⟨by omega, h.2⟩)]
/-- a schedule's dues of an account -/
theorem sched_acc {zs : List Int} {rows : List (List Int)} {L : List Du} (hD : mayD zs = true) (hp : L.Perm (allD zs rows rows.length)) (ho : InOrder byTk L) (m c : Nat) :
    ofAcc L m c = if m < rows.length ∧ c < (rows.getD m []).length ∧ (rows.getD m []).getD c 0 < 0 then duesOf m c ((rows.getD m []).getD c 0) zs else [] := by
  have h1 : (ofAcc L m c).Perm (ofAcc (allD zs rows rows.length) m c) := hp.filter _
  rw [ofAcc_all zs hD] at h1
  by_cases hx : m < rows.length ∧ c < (rows.getD m []).length ∧ (rows.getD m []).getD c 0 < 0
  · rw [if_pos hx] at h1 ⊢
    obtain ⟨_, _, h3, h4⟩ := duesOf_facts (m := (m : Int)) (c := (c : Int)) hD hx.2.2
    refine order_eq h1 (List.Pairwise.filter _ ho) (duesOf_order hD hx.2.2) fun x hx1 y hy1 ht _ _ => ?_
    apply Classical.byContradiction
    intro hne
    obtain ⟨i, hi, rfl⟩ := List.mem_iff_getElem.1 hx1
    obtain ⟨j, hj, rfl⟩ := List.mem_iff_getElem.1 hy1
    rcases Nat.lt_trichotomy i j with h | h | h
    · have := List.pairwise_iff_getElem.1 h3 i j hi hj h; omega
    · subst h; exact hne rfl
    · have := List.pairwise_iff_getElem.1 h3 j i hj hi h; omega
  · rw [if_neg hx] at h1 ⊢
    exact List.Perm.eq_nil h1
theorem sched_mem {zs : List Int} {rows : List (List Int)} {L : List Du} (hD : mayD zs = true) (hp : L.Perm (allD zs rows rows.length)) {d : Du} (hd : d ∈ L) :
    ∃ m c : Nat, m < rows.length ∧ c < (rows.getD m []).length ∧ (rows.getD m []).getD c 0 < 0 ∧ d.m = m ∧ d.c = c ∧ 1 ≤ d.n ∧ d.n ≤ -(rows.getD m []).getD c 0 ∧ d.t ∈ zs := by
  obtain ⟨m, hm, c, hc, hx, hd2⟩ := allD_mem (hp.mem_iff.1 hd)
  obtain ⟨e1, e2, e3, e4, e5⟩ := (duesOf_facts hD hx).2.2.2 d hd2
  exact ⟨m, c, hm, hc, hx, e1, e2, e3, e4, e5⟩
end Go.Proofs.YthocnlalahknjaaGreat.Dd
