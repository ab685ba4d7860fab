/- Who paid nothing is behind by all, at the last deadline (plain). -/
import Derived.Test.YthocnlalahknjaaGreatQWI
namespace Go.Proofs.YthocnlalahknjaaGreat.Dd
set_option linter.unusedVariables false

/-- one struck off -/
def strike (R : List (List Int)) (d : Du) : List (List Int) := R.set d.m.toNat ((R.getD d.m.toNat []).set d.c.toNat 0)
theorem getD_set {α : Type} (l : List α) (i j : Nat) (x d : α) (h : i < l.length) : (l.set i x).getD j d = if i = j then x else l.getD j d := by
  rw [List.getD_eq_getElem?_getD, List.getD_eq_getElem?_getD, List.getElem?_set]
  by_cases hij : i = j
  · subst hij; rw [if_pos rfl, if_pos rfl, if_pos h]; rfl
  · rw [if_neg hij, if_neg hij]
theorem strike_row (R : List (List Int)) (d : Du) (m : Nat) : (strike R d).getD m [] = if d.m.toNat = m then (R.getD m []).set d.c.toNat 0 else R.getD m [] := by
  unfold strike
  by_cases h : d.m.toNat < R.length
  · rw [getD_set _ _ _ _ _ h]
    by_cases hm : d.m.toNat = m
    · rw [if_pos hm, if_pos hm, hm]
    · rw [if_neg hm, if_neg hm]
  · rw [List.set_eq_of_length_le (by omega)]
    by_cases hm : d.m.toNat = m
    · rw [if_pos hm]
      have e : R.getD m [] = [] := by rw [List.getD_eq_getElem?_getD, List.getElem?_eq_none (by omega)]; rfl
      rw [e]; rfl
    · rw [if_neg hm]
theorem strike_len (R : List (List Int)) (d : Du) : (strike R d).length = R.length := by unfold strike; rw [List.length_set]
theorem strike_rlen (R : List (List Int)) (d : Du) (m : Nat) : ((strike R d).getD m []).length = (R.getD m []).length := by
  rw [strike_row]; split
  · rw [List.length_set]
  · rfl
theorem strike_get (R : List (List Int)) (d : Du) (m c : Nat) : ((strike R d).getD m []).getD c 0 = if d.m.toNat = m ∧ d.c.toNat = c then 0 else (R.getD m []).getD c 0 := by
  rw [strike_row]
  by_cases hm : d.m.toNat = m
  · rw [if_pos hm]
    by_cases hl : d.c.toNat < (R.getD m []).length
    · rw [getD_set _ _ _ _ _ hl]
      by_cases hc : d.c.toNat = c
      · rw [if_pos hc, if_pos ⟨hm, hc⟩]
      · rw [if_neg hc, if_neg (fun e => hc e.2)]
    · rw [List.set_eq_of_length_le (by omega)]
      by_cases hc : d.c.toNat = c
      · rw [if_pos ⟨hm, hc⟩, List.getD_eq_getElem?_getD, List.getElem?_eq_none (by omega)]; rfl
      · rw [if_neg (fun e => hc e.2)]
  · rw [if_neg hm, if_neg (fun e => hm e.1)]
theorem strikes_len : ∀ (l : List Du) (R : List (List Int)), (l.foldl strike R).length = R.length
  | [], R => rfl
  | d :: r, R => by rw [List.foldl_cons, strikes_len r, strike_len]
theorem strikes_rlen : ∀ (l : List Du) (R : List (List Int)) (m : Nat), ((l.foldl strike R).getD m []).length = (R.getD m []).length
  | [], R, m => rfl
  | d :: r, R, m => by rw [List.foldl_cons, strikes_rlen r, strike_rlen]
theorem strikes_get : ∀ (l : List Du) (R : List (List Int)) (m c : Nat), ((l.foldl strike R).getD m []).getD c 0 = if ∃ d ∈ l, d.m.toNat = m ∧ d.c.toNat = c then 0 else (R.getD m []).getD c 0
  | [], R, m, c => by simp
  | d :: r, R, m, c => by
    rw [List.foldl_cons, strikes_get r, strike_get]
    by_cases h1 : ∃ d ∈ r, d.m.toNat = m ∧ d.c.toNat = c
    · obtain ⟨x, hx, hk⟩ := h1
      rw [if_pos ⟨x, hx, hk⟩, if_pos ⟨x, List.mem_cons_of_mem _ hx, hk⟩]
    · rw [if_neg h1]
      by_cases h2 : d.m.toNat = m ∧ d.c.toNat = c
      · rw [if_pos h2, if_pos ⟨d, by simp, h2⟩]
      · rw [if_neg h2, if_neg]
        rintro ⟨x, hx, hk⟩
        rcases List.mem_cons.1 hx with rfl | hx
        · exact h2 hk
        · exact h1 ⟨x, hx, hk⟩
theorem behL_len (rows : List (List Int)) (now : Int) : ∀ (n : Nat) (L out : List Du), behL rows now n L = some out → out.length ≤ L.length
  | 0, L, out, h => by unfold behL at h; injection h with h; rw [← h]; exact Nat.zero_le _
  | n + 1, [], out, h => by unfold behL at h; injection h with h; rw [← h]; exact Nat.le_refl _
  | n + 1, d :: r, out, h => by
    unfold behL at h
    split at h
    · rw [Option.map_eq_some_iff] at h
      obtain ⟨t, ht, e⟩ := h
      have h1 := behL_len rows now n _ t ht
      have h2 := grpLen_pos (d := d) (r := r)
      have h3 := grpLen_le (d :: r)
      rw [List.length_drop] at h1
      rw [← e]
      split
      · rw [List.length_cons]; omega
      · omega
    · cases h
section
variable {zs : List Int} {rows : List (List Int)} {L : List Du}
theorem Sch.last (h : Sch zs rows L) : ofNow L (zs.getD (zs.length - 1) 0) = L := by
  unfold ofNow
  rw [List.filter_eq_self]
  intro d hd
  obtain ⟨_, _, _, _, _, _, _, _, _, ht⟩ := h.mem hd
  obtain ⟨i, hi, e⟩ := List.mem_iff_getElem.1 ht
  have e2 : zs.getD i 0 = d.t := by rw [List.getD_eq_getElem?_getD, List.getElem?_eq_getElem hi]; exact e
  rw [decide_eq_true_eq, ← e2]
  by_cases hl : i = zs.length - 1
  · rw [hl]; omega
  · have := (mayD_rise h.hD).2.2.1 i (zs.length - 1) (by omega) (by omega)
    omega
/-- those who paid nothing, struck off one by one -/
structure Strk (rows : List (List Int)) (out : List Du) (St : Nat → List (List Int)) : Prop where
  s0 : St 0 = rowsP rows rows.length
  st : ∀ k (hk : k < out.length), ∃ m c : Nat, out[k].m = m ∧ out[k].c = c ∧ ∃ (hm : m < (St k).length) (hc : c < ((St k)[m]).length), ((St k)[m]).length ≤ 8 ∧ (St k).length ≤ 16 ∧ out[k].n = ((St k)[m]).getD c 0 ∧ St (k + 1) = (St k).set m (((St k)[m]).set c 0)
  len : (St out.length).length = rows.length
  r8 : ∀ r ∈ St out.length, r.length ≤ 8
  zero : ∀ r ∈ St out.length, ∀ x ∈ r, x = 0
theorem byAcc_ne {a b : Du} (h : byAcc a b < 0) : ¬ (a.m = b.m ∧ a.c = b.c) := by
  rintro ⟨h1, h2⟩
  unfold byAcc at h
  have e1 : Lib.compareInt a.m b.m = 0 := cmp_zero.2 h1
  have e2 : Lib.compareInt a.c b.c = 0 := cmp_zero.2 h2
  rw [e1, e2] at h
  exact absurd h (by decide)
theorem Sch.none_paid (h : Sch zs rows L) {L' : List Du} (hp : L'.Perm (ofNow L (zs.getD (zs.length - 1) 0))) (ho : InOrder byAcc L') :
    ∃ out St, behL [] (zs.getD (zs.length - 1) 0) L'.length L' = some out ∧ out.length ≤ 4096 ∧ Strk rows out St := by
  rw [h.last] at hp
  have hk : ∀ d ∈ L', ∃ m c : Nat, m < rows.length ∧ c < (rows.getD m []).length ∧ d.m = m ∧ d.c = c := fun d hd => by
    obtain ⟨m, c, a1, a2, a3, a4, _⟩ := h.mem (hp.mem_iff.1 hd)
    exact ⟨m, c, a1, a2, a3, a4⟩
  generalize zs.getD (zs.length - 1) 0 = last
  rcases behL_spec [] last L'.length L' (Nat.le_refl _) ho with ⟨⟨d, hd, hs⟩, _⟩ | ⟨_, out, ho2, hpw, hmem⟩
  · exfalso
    obtain ⟨m, c, a1, a2, a3, a4⟩ := hk d hd
    rw [a3, a4, sumK_perm hp] at hs
    have := h.sum_le a1 a2
    omega
  have hout : ∀ e ∈ out, ∃ m c : Nat, m < rows.length ∧ c < (rows.getD m []).length ∧ e.m = m ∧ e.c = c ∧ e.n = max (-((rows.getD m []).getD c 0)) 0 := fun e he => by
    obtain ⟨d, hd, e1, e2, _, e4, e5⟩ := (hmem e).1 he
    obtain ⟨m, c, a1, a2, a3, a4⟩ := hk d hd
    refine ⟨m, c, a1, a2, by rw [← e1]; exact a3, by rw [← e2]; exact a4, ?_⟩
    rw [← e1, ← e2, a3, a4, sumK_perm hp, h.sum a1 a2] at e4
    have hz : payOf [] ((m : Int)).toNat ((c : Int)).toNat = 0 := by unfold payOf; simp
    rw [hz] at e4
    omega
  have hdist : ∀ i j (hi : i < out.length) (hj : j < out.length), i < j → ¬ (out[i].m = out[j].m ∧ out[i].c = out[j].c) := fun i j hi hj hij => byAcc_ne (List.pairwise_iff_getElem.1 hpw i j hi hj hij)
  have hR8 : ∀ m, ((rowsP rows rows.length).getD m []).length ≤ 8 := fun m => by
    by_cases hm : m < rows.length
    · rw [rowsP_get hm, rowP_len]
      have e1 : rows.getD m [] = rows[m] := by rw [List.getD_eq_getElem?_getD, List.getElem?_eq_getElem hm]; rfl
      rw [e1]; exact h.h8 _ (List.getElem_mem hm)
    · rw [List.getD_eq_getElem?_getD, List.getElem?_eq_none (by rw [rowsP_len]; omega)]; simp
  have hget : ∀ (S : List (List Int)) (m : Nat) (hm : m < S.length), S[m] = S.getD m [] := fun S m hm => by rw [List.getD_eq_getElem?_getD, List.getElem?_eq_getElem hm]; rfl
  have hlen : out.length ≤ 4096 := Nat.le_trans (behL_len [] last L'.length L' out ho2) (by rw [hp.length_eq]; exact h.len)
  refine ⟨out, fun k => (out.take k).foldl strike (rowsP rows rows.length), ho2, hlen, ⟨rfl, fun k hk => ?_, by rw [strikes_len, rowsP_len], fun r hr => ?_, fun r hr x hx => ?_⟩⟩
  · obtain ⟨m, c, a1, a2, a3, a4, a5⟩ := hout _ (List.getElem_mem hk)
    have hl : ((out.take k).foldl strike (rowsP rows rows.length)).length = rows.length := by rw [strikes_len, rowsP_len]
    have hrl := strikes_rlen (out.take k) (rowsP rows rows.length) m
    have hrl2 : ((rowsP rows rows.length).getD m []).length = (rows.getD m []).length := by rw [rowsP_get a1, rowP_len]
    have hm : m < ((out.take k).foldl strike (rowsP rows rows.length)).length := by omega
    have h8 := hR8 m
    refine ⟨m, c, a3, a4, hm, by rw [hget _ m hm]; omega, by rw [hget _ m hm]; omega, by have := h.m16; omega, ?_, ?_⟩
    · rw [hget _ m hm, strikes_get, if_neg, a5, rowsP_get a1, rowP_get a2]
      rintro ⟨d, hd, e1, e2⟩
      obtain ⟨i, hi, rfl⟩ := List.mem_iff_getElem.1 hd
      have hi2 : i < k := by rw [List.length_take] at hi; omega
      have ei : (out.take k)[i] = out[i]'(by omega) := List.getElem_take
      rw [ei] at e1 e2
      obtain ⟨m2, c2, b1, b2, b3, b4, _⟩ := hout (out[i]'(by omega)) (List.getElem_mem _)
      rw [b3, Int.toNat_natCast] at e1
      rw [b4, Int.toNat_natCast] at e2
      exact hdist i k (by omega) hk hi2 ⟨by rw [b3, a3, e1], by rw [b4, a4, e2]⟩
    · show (out.take (k + 1)).foldl strike _ = _
      rw [List.take_succ_eq_append_getElem hk, List.foldl_append, List.foldl_cons, List.foldl_nil]
      have hs : ∀ R d, strike R d = R.set d.m.toNat ((R.getD d.m.toNat []).set d.c.toNat 0) := fun _ _ => rfl
      rw [hs, a3, a4, Int.toNat_natCast, Int.toNat_natCast, ← hget _ m hm]
  · obtain ⟨m, hm, rfl⟩ := List.mem_iff_getElem.1 hr
    rw [hget _ m hm, strikes_rlen]; exact hR8 m
  · replace hr : r ∈ out.foldl strike (rowsP rows rows.length) := by
      have e : out.take out.length = out := List.take_length
      rw [← e]; exact hr
    obtain ⟨m, hm, rfl⟩ := List.mem_iff_getElem.1 hr
    obtain ⟨c, hc, rfl⟩ := List.mem_iff_getElem.1 hx
    have hm2 : m < rows.length := by rw [strikes_len, rowsP_len] at hm; exact hm
    have hc2 : c < (rows.getD m []).length := by rw [hget _ m hm, strikes_rlen, rowsP_get hm2, rowP_len] at hc; exact hc
    have e1 : ∀ (l : List Int) (hc : c < l.length), l[c] = l.getD c 0 := fun l hc => by rw [List.getD_eq_getElem?_getD, List.getElem?_eq_getElem hc]; rfl
    rw [e1 _ hc, hget _ m hm, strikes_get]
    split
    · rfl
    · rename_i hno
      rw [rowsP_get hm2, rowP_get hc2]
      by_cases hx : (rows.getD m []).getD c 0 < 0
      · exfalso
        apply hno
        have hacc := sched_acc h.hD h.hp h.ho m c
        rw [if_pos ⟨hm2, hc2, hx⟩] at hacc
        have hne := duesOf_ne (m := (m : Int)) (c := (c : Int)) (mayD_rise h.hD).1 hx
        rw [← hacc] at hne
        obtain ⟨d, hd⟩ := List.exists_mem_of_ne_nil _ hne
        obtain ⟨hd1, hd2⟩ := List.mem_filter.1 hd
        simp only [Bool.and_eq_true, decide_eq_true_eq] at hd2
        have hsum := h.sum hm2 hc2
        refine ⟨⟨m, c, last, sumK L m c⟩, (hmem _).2 ⟨d, hp.mem_iff.2 hd1, hd2.1, hd2.2, rfl, ?_, ?_⟩, by simp, by simp⟩
        · have hz : payOf [] ((m : Int)).toNat ((c : Int)).toNat = 0 := by unfold payOf; simp
          show sumK L m c = sumK L' m c - payOf [] ((m : Int)).toNat ((c : Int)).toNat
          rw [sumK_perm hp, hz]; omega
        · show 0 < sumK L m c
          omega
      · omega
end
end Go.Proofs.YthocnlalahknjaaGreat.Dd
