/- Plain arithmetic of shares: none is one unit from its exact part, and a greater weight has no lesser share. -/
import Derived.Test.YtdbjfginigekbaaS8
namespace Go.Proofs.Ytdbjfginigekbaa
set_option linter.unusedVariables false

theorem rank_lt {ls : Nat → Int} {n i k : Nat} (hi : i < n) (hk : k < n) (h : Ahead ls i k) : rank ls n i < rank ls n k := by
  obtain ⟨L, hp, hs⟩ := order_exists ls n
  obtain ⟨a, ha, hai⟩ := List.getElem_of_mem (hp.mem_iff.2 (List.mem_range.2 hi))
  obtain ⟨b, hb, hbk⟩ := List.getElem_of_mem (hp.mem_iff.2 (List.mem_range.2 hk))
  have e1 := rank_at hp hs a i (by rw [List.getElem?_eq_getElem ha, hai])
  have e2 := rank_at hp hs b k (by rw [List.getElem?_eq_getElem hb, hbk])
  rw [e1, e2]
  rcases Nat.lt_trichotomy a b with hlt | heq | hgt
  · exact hlt
  · subst heq
    rw [hai] at hbk
    subst hbk
    exact absurd h (Ahead.irrefl _ _)
  · have := List.pairwise_iff_getElem.1 hs b a hb ha hgt
    rw [hai, hbk] at this
    exact absurd h this.asymm

/-- the whole number above a quotient -/
theorem ceil_eq (P S : Int) (hS : 1 ≤ S) : -(-P / S) = P / S + if 0 < P % S then 1 else 0 := by
  rw [neg_div P S hS]
  have h1 := Int.emod_nonneg P (by omega : S ≠ 0)
  have h2 := Int.emod_lt_of_pos P (by omega : 0 < S)
  have h3 := Int.mul_ediv_add_emod P S
  generalize P / S = q at *
  generalize P % S = r at *
  subst h3
  by_cases hr : 0 < r
  · rw [if_pos hr]
    have : S * q + r + (S - 1) = (r - 1) + S * (q + 1) := by rw [Int.mul_add]; omega
    rw [this, Int.add_mul_ediv_left _ _ (by omega), Int.ediv_eq_zero_of_lt (by omega) (by omega)]
    omega
  · rw [if_neg hr]
    have hr0 : r = 0 := by omega
    subst hr0
    have : S * q + 0 + (S - 1) = (S - 1) + S * q := by omega
    rw [this, Int.add_mul_ediv_left _ _ (by omega), Int.ediv_eq_zero_of_lt (by omega) (by omega)]
    omega

theorem share_near (T : Int) (zs : List Int) (hT : 0 ≤ T) (hS : 1 ≤ sumL zs) (hz : ∀ z ∈ zs, 0 ≤ z) (i : Nat) (hi : i < zs.length) :
    T * zs.getD i 0 / sumL zs ≤ share T (sumL zs) zs i ∧ share T (sumL zs) zs i ≤ -(-(T * zs.getD i 0) / sumL zs) := by
  rw [ceil_eq _ _ hS]
  unfold share
  by_cases hg : (rank (fun i => (rems T (sumL zs) zs).getD i 0) zs.length i : Int) < missing T (sumL zs) zs
  · rw [if_pos hg, if_pos (gets_pos T zs hS i hg)]
    omega
  · rw [if_neg hg]
    split <;> omega

theorem ceil_bd (T : Int) (zs : List Int) (hT : 0 ≤ T) (hS : 1 ≤ sumL zs) (hz : ∀ z ∈ zs, 0 ≤ z) (i : Nat) (hi : i < zs.length) :
    0 ≤ -(-(T * zs.getD i 0) / sumL zs) ∧ -(-(T * zs.getD i 0) / sumL zs) ≤ T := by
  have hin : zs.getD i 0 ∈ zs := by rw [List.getD_eq_getElem?_getD, List.getElem?_eq_getElem hi]; exact List.getElem_mem _
  obtain ⟨q0, q1, _⟩ := part_bd T (zs.getD i 0) (sumL zs) hT (hz _ hin) (mem_le_sum hz _ hin) hS
  have hle : T * zs.getD i 0 ≤ T * sumL zs := Int.mul_le_mul_of_nonneg_left (mem_le_sum hz _ hin) hT
  have h3 := Int.mul_ediv_add_emod (T * zs.getD i 0) (sumL zs)
  rw [ceil_eq _ _ hS]
  refine ⟨by split <;> omega, ?_⟩
  split
  · next hr =>
    apply Int.lt_of_mul_lt_mul_left (a := sumL zs) _ (by omega)
    rw [Int.mul_comm (sumL zs) T]
    omega
  · omega

theorem share_pair (T : Int) (zs : List Int) (hT : 0 ≤ T) (hS : 1 ≤ sumL zs) (hz : ∀ z ∈ zs, 0 ≤ z) (i k : Nat) (hi : i < zs.length) (hk : k < zs.length) :
    (zs.getD k 0 < zs.getD i 0 → share T (sumL zs) zs k ≤ share T (sumL zs) zs i) ∧
    (zs.getD i 0 = zs.getD k 0 → share T (sumL zs) zs i - 1 ≤ share T (sumL zs) zs k ∧ (i < k → share T (sumL zs) zs k ≤ share T (sumL zs) zs i)) := by
  have mono : Ahead (fun i => (rems T (sumL zs) zs).getD i 0) i k → (if (rank (fun i => (rems T (sumL zs) zs).getD i 0) zs.length k : Int) < missing T (sumL zs) zs then (1 : Int) else 0) ≤ if (rank (fun i => (rems T (sumL zs) zs).getD i 0) zs.length i : Int) < missing T (sumL zs) zs then 1 else 0 := by
    intro h
    have := rank_lt hi hk h
    split
    · rw [if_pos (by omega)]; omega
    · split <;> omega
  have hr : ∀ j, (rems T (sumL zs) zs).getD j 0 = T * zs.getD j 0 % sumL zs := rems_at T (sumL zs) zs
  have hi3 := Int.mul_ediv_add_emod (T * zs.getD i 0) (sumL zs)
  have hk3 := Int.mul_ediv_add_emod (T * zs.getD k 0) (sumL zs)
  have hb1 : ∀ P : Prop, ∀ [Decidable P], 0 ≤ (if P then (1 : Int) else 0) ∧ (if P then (1 : Int) else 0) ≤ 1 := by
    intro P _; split <;> omega
  refine ⟨fun h => ?_, fun h => ⟨?_, fun hik => ?_⟩⟩
  · have hle : T * zs.getD k 0 ≤ T * zs.getD i 0 := Int.mul_le_mul_of_nonneg_left (by omega) hT
    have hq : T * zs.getD k 0 / sumL zs ≤ T * zs.getD i 0 / sumL zs := Int.ediv_le_ediv (by omega) hle
    unfold share
    by_cases he : T * zs.getD k 0 / sumL zs = T * zs.getD i 0 / sumL zs
    · rw [he]
      by_cases hT0 : T = 0
      · have hm : missing T (sumL zs) zs = 0 := by
          rcases missing_lt T zs hS with h0 | h1
          · exact h0
          · exfalso
            have hall : (rems T (sumL zs) zs).countP (fun r => decide (0 < r)) = 0 := by
              rw [List.countP_eq_zero]
              intro r hrr
              simp only [rems, List.mem_map] at hrr
              obtain ⟨z, _, rfl⟩ := hrr
              rw [hT0]; simp
            have := missing_nonneg T zs hS
            omega
        rw [hm, if_neg (by omega), if_neg (by omega)]
        omega
      · have hlt : T * zs.getD k 0 < T * zs.getD i 0 := Int.mul_lt_mul_of_pos_left h (by omega)
        have ha : Ahead (fun i => (rems T (sumL zs) zs).getD i 0) i k := by
          left
          show (rems T (sumL zs) zs).getD k 0 < (rems T (sumL zs) zs).getD i 0
          rw [hr i, hr k]
          rw [he] at hk3
          omega
        have := mono ha
        omega
    · have b1 := hb1 ((rank (fun i => (rems T (sumL zs) zs).getD i 0) zs.length k : Int) < missing T (sumL zs) zs)
      have b2 := hb1 ((rank (fun i => (rems T (sumL zs) zs).getD i 0) zs.length i : Int) < missing T (sumL zs) zs)
      omega
  · unfold share
    rw [h]
    have b1 := hb1 ((rank (fun i => (rems T (sumL zs) zs).getD i 0) zs.length k : Int) < missing T (sumL zs) zs)
    have b2 := hb1 ((rank (fun i => (rems T (sumL zs) zs).getD i 0) zs.length i : Int) < missing T (sumL zs) zs)
    omega
  · have ha : Ahead (fun i => (rems T (sumL zs) zs).getD i 0) i k := by
      right
      refine ⟨?_, hik⟩
      show (rems T (sumL zs) zs).getD k 0 = (rems T (sumL zs) zs).getD i 0
      rw [hr i, hr k, h]
    have := mono ha
    unfold share
    rw [h]
    omega

end Go.Proofs.Ytdbjfginigekbaa
