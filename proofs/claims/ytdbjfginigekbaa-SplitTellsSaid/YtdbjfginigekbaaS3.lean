/- Plain arithmetic of shares: what is missing, who gets one more, and that all is shared out. -/
import Derived.Test.YtdbjfginigekbaaS2
namespace Go.Proofs.Ytdbjfginigekbaa
set_option linter.unusedVariables false

def quos (T S : Int) (zs : List Int) : List Int := zs.map fun z => T * z / S
def rems (T S : Int) (zs : List Int) : List Int := zs.map fun z => T * z % S

theorem quos_len (T S : Int) (zs : List Int) : (quos T S zs).length = zs.length := by simp [quos]
theorem rems_len (T S : Int) (zs : List Int) : (rems T S zs).length = zs.length := by simp [rems]
theorem getD_map (f : Int → Int) (h0 : f 0 = 0) (zs : List Int) (i : Nat) : (zs.map f).getD i 0 = f (zs.getD i 0) := by
  rw [List.getD_eq_getElem?_getD, List.getD_eq_getElem?_getD, List.getElem?_map]
  cases zs[i]? with
  | none => simp [h0]
  | some z => rfl
theorem quos_at (T S : Int) (zs : List Int) (i : Nat) : (quos T S zs).getD i 0 = T * zs.getD i 0 / S := getD_map _ (by simp) zs i
theorem rems_at (T S : Int) (zs : List Int) (i : Nat) : (rems T S zs).getD i 0 = T * zs.getD i 0 % S := getD_map _ (by simp) zs i

theorem sum_nonneg {l : List Int} (h : ∀ z ∈ l, 0 ≤ z) : 0 ≤ sumL l := by
  induction l with
  | nil => simp [sumL]
  | cons a l ih =>
    have h1 := h a (by simp)
    have h2 := ih fun z hz => h z (by simp [hz])
    simp only [sumL]; omega

theorem mem_le_sum {l : List Int} (h : ∀ z ∈ l, 0 ≤ z) : ∀ z ∈ l, z ≤ sumL l := by
  induction l with
  | nil => intro z hz; simp at hz
  | cons a l ih =>
    intro z hz
    have h1 := h a (by simp)
    have h2 := sum_nonneg (l := l) fun z hz => h z (by simp [hz])
    have h3 := ih fun z hz => h z (by simp [hz])
    simp only [sumL]
    rcases List.mem_cons.1 hz with e | e
    · omega
    · have := h3 z e; omega

theorem sum_quo_rem (T S : Int) (hS : 1 ≤ S) (zs : List Int) : S * sumL (quos T S zs) + sumL (rems T S zs) = T * sumL zs := by
  induction zs with
  | nil => simp [quos, rems, sumL]
  | cons z zs ih =>
    have h := Int.mul_ediv_add_emod (T * z) S
    simp only [quos, rems, List.map_cons, sumL] at ih ⊢
    rw [Int.mul_add, Int.mul_add]
    omega

theorem rems_bd (T S : Int) (hS : 1 ≤ S) (zs : List Int) : ∀ r ∈ rems T S zs, 0 ≤ r ∧ r < S := by
  intro r hr
  simp only [rems, List.mem_map] at hr
  obtain ⟨z, _, rfl⟩ := hr
  exact ⟨Int.emod_nonneg _ (by omega), Int.emod_lt_of_pos _ (by omega)⟩

theorem quos_nonneg (T S : Int) (hT : 0 ≤ T) (hS : 1 ≤ S) (zs : List Int) (hz : ∀ z ∈ zs, 0 ≤ z) : ∀ q ∈ quos T S zs, 0 ≤ q := by
  intro q hq
  simp only [quos, List.mem_map] at hq
  obtain ⟨z, h, rfl⟩ := hq
  exact Int.ediv_nonneg (Int.mul_nonneg hT (hz z h)) (by omega)

/-- a sum of terms below S, of which P are above 0 -/
theorem sum_le_pos (S : Int) (hS : 1 ≤ S) : ∀ l : List Int, (∀ r ∈ l, 0 ≤ r ∧ r < S) → sumL l ≤ (S - 1) * (l.countP fun r => decide (0 < r) : Nat) := by
  intro l
  induction l with
  | nil => intro _; simp [sumL]
  | cons a l ih =>
    intro h
    have h1 := h a (by simp)
    have h2 := ih fun r hr => h r (by simp [hr])
    simp only [sumL, List.countP_cons]
    by_cases ha : 0 < a
    · simp only [ha, decide_true, if_true]
      rw [Int.natCast_add, Int.mul_add]
      simp; omega
    · simp only [ha, decide_false, Bool.false_eq_true, if_false]
      simp; omega

def missing (T S : Int) (zs : List Int) : Int := T - sumL (quos T S zs)

theorem missing_eq (T : Int) (zs : List Int) (hS : 1 ≤ sumL zs) : sumL (rems T (sumL zs) zs) = sumL zs * missing T (sumL zs) zs := by
  have h := sum_quo_rem T (sumL zs) hS zs
  unfold missing
  rw [Int.mul_sub, Int.mul_comm (sumL zs) T]
  omega

theorem missing_nonneg (T : Int) (zs : List Int) (hS : 1 ≤ sumL zs) : 0 ≤ missing T (sumL zs) zs := by
  have h1 := missing_eq T zs hS
  have h2 := sum_nonneg fun r hr => (rems_bd T (sumL zs) hS zs r hr).1
  rw [h1] at h2
  exact Int.nonneg_of_mul_nonneg_right h2 (by omega)

/-- fewer are missing than have something left over -/
theorem missing_lt (T : Int) (zs : List Int) (hS : 1 ≤ sumL zs) : missing T (sumL zs) zs = 0 ∨ missing T (sumL zs) zs < ((rems T (sumL zs) zs).countP fun r => decide (0 < r) : Nat) := by
  have h1 := missing_eq T zs hS
  have h2 := sum_le_pos (sumL zs) hS _ (rems_bd T (sumL zs) hS zs)
  have h3 := missing_nonneg T zs hS
  generalize missing T (sumL zs) zs = m at *
  generalize ((rems T (sumL zs) zs).countP fun r => decide (0 < r)) = P at *
  generalize sumL zs = S at *
  rw [h1] at h2
  by_cases hm : m = 0
  · exact Or.inl hm
  · right
    apply Int.lt_of_mul_lt_mul_left (a := S) _ (by omega)
    have : (S - 1) * (P : Int) = S * P - P := by rw [Int.sub_mul, Int.one_mul]
    by_cases hP : P = 0
    · subst hP
      simp at h2
      have : 0 < S * m := Int.mul_pos (by omega) (by omega)
      omega
    · omega

theorem missing_le (T : Int) (zs : List Int) (hS : 1 ≤ sumL zs) : missing T (sumL zs) zs ≤ zs.length := by
  have h := missing_lt T zs hS
  have h2 : (rems T (sumL zs) zs).countP (fun r => decide (0 < r)) ≤ (rems T (sumL zs) zs).length := List.countP_le_length
  rw [rems_len] at h2
  omega

/-- what is left still, k places on -/
theorem left_bd (T S : Int) (zs : List Int) (hT : 0 ≤ T) (hS : 1 ≤ S) (hz : ∀ z ∈ zs, 0 ≤ z) (hm : 0 ≤ missing T S zs) (k : Nat) : 0 ≤ T - sumL ((quos T S zs).take k) ∧ T - sumL ((quos T S zs).take k) ≤ T := by
  have hq := quos_nonneg T S hT hS zs hz
  have h1 : 0 ≤ sumL ((quos T S zs).take k) := sum_nonneg fun q h => hq q (List.mem_of_mem_take h)
  have h2 : 0 ≤ sumL ((quos T S zs).drop k) := sum_nonneg fun q h => hq q (List.mem_of_mem_drop h)
  have h3 : sumL (quos T S zs) = sumL ((quos T S zs).take k) + sumL ((quos T S zs).drop k) := by rw [← sumL_append, List.take_append_drop]
  unfold missing at hm
  omega

theorem quo_lt (T : Int) (zs : List Int) (hT : 0 ≤ T) (hS : 1 ≤ sumL zs) (hz : ∀ z ∈ zs, 0 ≤ z) (i : Nat) (hm : 1 ≤ missing T (sumL zs) zs) : T * zs.getD i 0 / sumL zs + 1 ≤ T := by
  have hq := quos_nonneg T (sumL zs) hT hS zs hz
  have h := mem_le_sum hq
  rw [← quos_at]
  unfold missing at hm
  by_cases hi : i < (quos T (sumL zs) zs).length
  · have := h ((quos T (sumL zs) zs).getD i 0) (by rw [List.getD_eq_getElem?_getD, List.getElem?_eq_getElem hi]; exact List.getElem_mem hi)
    omega
  · rw [List.getD_eq_getElem?_getD, List.getElem?_eq_none (by omega)]
    have := sum_nonneg hq
    simp; omega

instance (ls : Nat → Int) (a b : Nat) : Decidable (Ahead ls a b) := by unfold Ahead; infer_instance

theorem Ahead.irrefl (ls : Nat → Int) (a : Nat) : ¬ Ahead ls a a := by unfold Ahead; omega
theorem Ahead.asymm {ls : Nat → Int} {a b : Nat} (h : Ahead ls a b) : ¬ Ahead ls b a := by unfold Ahead at *; omega
theorem Ahead.trans {ls : Nat → Int} {a b c : Nat} (h : Ahead ls a b) (h' : Ahead ls b c) : Ahead ls a c := by unfold Ahead at *; omega

/-- how many of n places are ahead -/
def rank (ls : Nat → Int) (n i : Nat) : Nat := (List.range n).countP fun j => decide (Ahead ls j i)

theorem count_before {ls : Nat → Int} : ∀ {L : List Nat}, L.Pairwise (Ahead ls) → ∀ p i, L[p]? = some i → L.countP (fun j => decide (Ahead ls j i)) = p := by
  intro L
  induction L with
  | nil => intro _ p i h; simp at h
  | cons a L ih =>
    intro hp p i h
    obtain ⟨h1, h2⟩ := List.pairwise_cons.1 hp
    rw [List.countP_cons]
    cases p with
    | zero =>
      simp at h; subst h
      have : L.countP (fun j => decide (Ahead ls j a)) = 0 := by
        rw [List.countP_eq_zero]
        intro x hx
        simpa using (h1 x hx).asymm
      rw [this]
      simp [Ahead.irrefl]
    | succ p =>
      have h' : L[p]? = some i := by simpa using h
      rw [ih h2 p i h']
      have : Ahead ls a i := h1 i (List.mem_of_getElem? h')
      simp [this]

theorem rank_at {ls : Nat → Int} {n : Nat} {L : List Nat} (hp : L.Perm (List.range n)) (hs : L.Pairwise (Ahead ls)) (p i : Nat) (h : L[p]? = some i) : rank ls n i = p := by
  unfold rank
  rw [← hp.countP_eq]
  exact count_before hs p i h

theorem mem_take_iff {ls : Nat → Int} {n : Nat} {L : List Nat} (hp : L.Perm (List.range n)) (hs : L.Pairwise (Ahead ls)) (k i : Nat) (hi : i < n) : i ∈ L.take k ↔ rank ls n i < k := by
  have hm : i ∈ L := hp.mem_iff.2 (List.mem_range.2 hi)
  obtain ⟨p, hlt, hpi⟩ := List.getElem_of_mem hm
  have hpi' : L[p]? = some i := by rw [List.getElem?_eq_getElem hlt, hpi]
  have hr := rank_at hp hs p i hpi'
  constructor
  · intro h
    obtain ⟨q, hq, hqi⟩ := List.getElem_of_mem h
    have hq' : q < k := by have := List.length_take (l := L) (i := k); omega
    have : L[q]? = some i := by
      rw [← hqi, List.getElem_take]; exact List.getElem?_eq_getElem _
    have := rank_at hp hs q i this
    omega
  · intro h
    rw [List.mem_take_iff_getElem]
    exact ⟨p, by omega, hpi⟩

/-- a share -/
def share (T S : Int) (zs : List Int) (i : Nat) : Int :=
  T * zs.getD i 0 / S + if (rank (fun i => (rems T S zs).getD i 0) zs.length i : Int) < missing T S zs then 1 else 0
/-- all shares -/
def shares (T : Int) (zs : List Int) : List Int := (List.range zs.length).map (share T (sumL zs) zs)
theorem shares_len (T : Int) (zs : List Int) : (shares T zs).length = zs.length := by simp [shares]
theorem shares_at (T : Int) (zs : List Int) (i : Nat) (h : i < zs.length) : (shares T zs).getD i 0 = share T (sumL zs) zs i := by
  rw [List.getD_eq_getElem?_getD, List.getElem?_eq_getElem (by rw [shares_len]; exact h)]
  simp [shares]

/-- shares, of which those of the first k have got one more -/
def given (T : Int) (zs : List Int) (L : List Nat) (k : Nat) : List Int :=
  (List.range zs.length).map fun i => T * zs.getD i 0 / sumL zs + if i ∈ L.take k then 1 else 0
theorem given_len (T : Int) (zs : List Int) (L : List Nat) (k : Nat) : (given T zs L k).length = zs.length := by simp [given]
theorem given_at (T : Int) (zs : List Int) (L : List Nat) (k i : Nat) (h : i < zs.length) : (given T zs L k).getD i 0 = T * zs.getD i 0 / sumL zs + if i ∈ L.take k then 1 else 0 := by
  rw [List.getD_eq_getElem?_getD, List.getElem?_eq_getElem (by rw [given_len]; exact h)]
  simp [given]

theorem given_zero (T : Int) (zs : List Int) (L : List Nat) : given T zs L 0 = quos T (sumL zs) zs := by
  apply List.ext_getElem
  · rw [given_len, quos_len]
  · intro i h1 h2
    simp only [given, quos, List.getElem_map, List.getElem_range, List.take_zero, List.not_mem_nil, if_false]
    rw [given_len] at h1
    rw [List.getD_eq_getElem?_getD, List.getElem?_eq_getElem h1]
    simp

theorem given_step (T : Int) (zs : List Int) (L : List Nat) (hp : L.Perm (List.range zs.length)) (k j : Nat) (hk : L[k]? = some j) :
    (given T zs L k).set j ((given T zs L k).getD j 0 + 1) = given T zs L (k + 1) ∧ j < zs.length ∧ (given T zs L k).getD j 0 = T * zs.getD j 0 / sumL zs := by
  have hj : j < zs.length := List.mem_range.1 (hp.mem_iff.1 (List.mem_of_getElem? hk))
  have hnd : L.Nodup := hp.nodup_iff.2 List.nodup_range
  obtain ⟨hkl, hkj⟩ := List.getElem?_eq_some_iff.1 hk
  have htk : L.take (k + 1) = L.take k ++ [j] := by rw [List.take_succ_eq_append_getElem hkl, hkj]
  have hnot : j ∉ L.take k := by
    intro h
    obtain ⟨q, hq, hqi⟩ := List.getElem_of_mem h
    have hq2 : q < k := by have := List.length_take (l := L) (i := k); omega
    rw [List.getElem_take] at hqi
    exact List.pairwise_iff_getElem.1 hnd q k (by omega) hkl hq2 (by rw [hqi, hkj])
  have e1 : (given T zs L k).getD j 0 = T * zs.getD j 0 / sumL zs := by rw [given_at T zs L k j hj, if_neg hnot]; omega
  refine ⟨?_, hj, e1⟩
  rw [e1]
  apply List.ext_getElem
  · rw [List.length_set, given_len, given_len]
  · intro i h1 h2
    rw [List.getElem_set]
    simp only [given, List.getElem_map, List.getElem_range, htk, List.mem_append, List.mem_singleton]
    by_cases hij : j = i
    · subst hij; simp
    · have : i ≠ j := fun e => hij e.symm
      rw [if_neg hij]
      simp [this]

theorem given_all (T : Int) (zs : List Int) (L : List Nat) (hp : L.Perm (List.range zs.length)) (hs : L.Pairwise (Ahead fun i => (rems T (sumL zs) zs).getD i 0)) (m : Nat) (hm : (m : Int) = missing T (sumL zs) zs) :
    given T zs L m = shares T zs := by
  apply List.ext_getElem
  · rw [given_len, shares_len]
  · intro i h1 h2
    rw [given_len] at h1
    simp only [given, shares, List.getElem_map, List.getElem_range, share]
    rw [← hm]
    congr 1
    have h := mem_take_iff hp hs m i h1
    by_cases hin : i ∈ L.take m
    · rw [if_pos hin, if_pos (by have := h.1 hin; omega)]
    · rw [if_neg hin, if_neg (by intro hc; exact hin (h.2 (by omega)))]

end Go.Proofs.Ytdbjfginigekbaa
