/- Plain arithmetic of shares: all together they are the total; who gets one more had something left over. -/
import Derived.Test.YtdbjfginigekbaaS7
namespace Go.Proofs.Ytdbjfginigekbaa
set_option linter.unusedVariables false

/-- there is an order -/
theorem order_exists (ls : Nat → Int) (n : Nat) : ∃ L : List Nat, L.Perm (List.range n) ∧ L.Pairwise (Ahead ls) := by
  let le : Nat → Nat → Bool := fun a b => !decide (Ahead ls b a)
  have htr : ∀ a b c : Nat, le a b = true → le b c = true → le a c = true := by
    intro a b c h1 h2
    simp only [le, Bool.not_eq_true', decide_eq_false_iff_not] at *
    unfold Ahead at *; omega
  have hto : ∀ a b : Nat, (le a b || le b a) = true := by
    intro a b
    simp only [le, Bool.or_eq_true, Bool.not_eq_true', decide_eq_false_iff_not]
    unfold Ahead; omega
  refine ⟨(List.range n).mergeSort le, List.mergeSort_perm _ _, ?_⟩
  have hs := List.pairwise_mergeSort (le := le) htr hto (List.range n)
  have hnd : ((List.range n).mergeSort le).Nodup := (List.mergeSort_perm _ _).nodup_iff.2 List.nodup_range
  have := hs.and hnd
  refine this.imp ?_
  rintro a b ⟨h1, h2⟩
  simp only [le, Bool.not_eq_true', decide_eq_false_iff_not] at h1
  exact Ahead.total h1 h2

theorem sum_set : ∀ (l : List Int) (j : Nat), j < l.length → sumL (l.set j (l.getD j 0 + 1)) = sumL l + 1 := by
  intro l
  induction l with
  | nil => intro j h; simp at h
  | cons a l ih =>
    intro j h
    cases j with
    | zero => simp [sumL]; omega
    | succ j =>
      have := ih j (by simpa using h)
      simp only [List.set_cons_succ, sumL, List.getD_cons_succ]
      omega

theorem sum_given (T : Int) (zs : List Int) (L : List Nat) (hp : L.Perm (List.range zs.length)) : ∀ k, k ≤ zs.length → sumL (given T zs L k) = sumL (quos T (sumL zs) zs) + k
  | 0, _ => by rw [given_zero]; simp
  | k + 1, h => by
    have hl : L.length = zs.length := by have := hp.length_eq; simpa using this
    have hk : L[k]? = some (L[k]'(by omega)) := List.getElem?_eq_getElem _
    obtain ⟨h1, h2, _⟩ := given_step T zs L hp k _ hk
    rw [← h1, sum_set _ _ (by rw [given_len]; exact h2), sum_given T zs L hp k (by omega)]
    omega

theorem sum_shares (T : Int) (zs : List Int) (hS : 1 ≤ sumL zs) : sumL (shares T zs) = T := by
  obtain ⟨L, hp, hs⟩ := order_exists (fun i => (rems T (sumL zs) zs).getD i 0) zs.length
  obtain ⟨m, hm⟩ := Int.eq_ofNat_of_zero_le (missing_nonneg T zs hS)
  have hle := missing_le T zs hS
  rw [← given_all T zs L hp hs m hm.symm, sum_given T zs L hp m (by omega), ← hm]
  unfold missing
  omega

theorem countP_range (l : List Int) (p : Int → Bool) : (List.range l.length).countP (fun j => p (l.getD j 0)) = l.countP p := by
  have h : l = (List.range l.length).map fun j => l.getD j 0 := by
    apply List.ext_getElem
    · simp
    · intro i h1 h2
      rw [List.getElem_map, List.getElem_range, List.getD_eq_getElem?_getD, List.getElem?_eq_getElem h1]
      rfl
  conv => rhs; rw [h]
  rw [List.countP_map]
  rfl

/-- who gets one more had something left over -/
theorem gets_pos (T : Int) (zs : List Int) (hS : 1 ≤ sumL zs) (i : Nat) (h : (rank (fun i => (rems T (sumL zs) zs).getD i 0) zs.length i : Int) < missing T (sumL zs) zs) :
    0 < T * zs.getD i 0 % sumL zs := by
  have hr0 : 0 ≤ T * zs.getD i 0 % sumL zs := Int.emod_nonneg _ (by omega)
  by_cases hz : T * zs.getD i 0 % sumL zs = 0
  · exfalso
    rcases missing_lt T zs hS with h0 | h1
    · omega
    · have hle : (rems T (sumL zs) zs).countP (fun r => decide (0 < r)) ≤ rank (fun i => (rems T (sumL zs) zs).getD i 0) zs.length i := by
        rw [← countP_range, rems_len]
        unfold rank
        apply List.countP_mono_left
        intro j _ hj
        simp only [decide_eq_true_eq] at hj ⊢
        left
        show (rems T (sumL zs) zs).getD i 0 < (rems T (sumL zs) zs).getD j 0
        rw [rems_at T (sumL zs) zs i, hz]
        exact hj
      omega
  · omega

theorem share_bd (T : Int) (zs : List Int) (hT : 0 ≤ T) (hS : 1 ≤ sumL zs) (hz : ∀ z ∈ zs, 0 ≤ z) (i : Nat) (hi : i < zs.length) :
    0 ≤ share T (sumL zs) zs i ∧ share T (sumL zs) zs i ≤ T ∧ (zs.getD i 0 = 0 → share T (sumL zs) zs i = 0) := by
  have hin : zs.getD i 0 ∈ zs := by rw [List.getD_eq_getElem?_getD, List.getElem?_eq_getElem hi]; exact List.getElem_mem _
  obtain ⟨q0, q1, _⟩ := part_bd T (zs.getD i 0) (sumL zs) hT (hz _ hin) (mem_le_sum hz _ hin) hS
  have hm := missing_nonneg T zs hS
  unfold share
  by_cases hg : (rank (fun i => (rems T (sumL zs) zs).getD i 0) zs.length i : Int) < missing T (sumL zs) zs
  · rw [if_pos hg]
    have hp := gets_pos T zs hS i hg
    have hl := quo_lt T zs hT hS hz i (by omega)
    refine ⟨by omega, hl, fun h0 => ?_⟩
    rw [h0] at hp
    simp at hp
  · rw [if_neg hg]
    refine ⟨by omega, by omega, fun h0 => ?_⟩
    rw [h0]; simp

theorem shares_amt (T : Int) (zs : List Int) (hT0 : 0 ≤ T) (hT : Amt T) (hS : 1 ≤ sumL zs) (hz : ∀ z ∈ zs, 0 ≤ z) (i : Nat) : Amt ((shares T zs).getD i 0) := by
  refine amt_getD _ (fun z hm => ?_) i
  simp only [shares, List.mem_map, List.mem_range] at hm
  obtain ⟨k, hk, rfl⟩ := hm
  have := share_bd T zs hT0 hS hz k hk
  have := hT.2
  exact ⟨by omega, by omega⟩

theorem shE_zero {T : Int} {zs : List Int} (h : shE T zs = 0) : chk T zs = 0 ∧ 1 ≤ sumL zs ∧ sumL zs ≤ 9223372036854775807 ∧ zs.length ≤ 64 ∧ 0 ≤ T ∧ ∀ z ∈ zs, 0 ≤ z := by
  unfold shE at h
  by_cases hc : chk T zs = 0
  · rw [if_neg (by simp [hc])] at h
    obtain ⟨h1, h2, h3⟩ := chk_zero hc
    have h4 := sum_nonneg h3
    by_cases h5 : 9223372036854775807 < sumL zs
    · rw [if_pos h5] at h; omega
    · rw [if_neg h5] at h
      by_cases h6 : sumL zs = 0
      · rw [if_pos h6] at h; omega
      · exact ⟨hc, by omega, by omega, h1, h2, h3⟩
  · rw [if_pos hc] at h; exact absurd h hc

end Go.Proofs.Ytdbjfginigekbaa
