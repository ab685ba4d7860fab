/- What Behind tells, account by account; no Go text.
  What Schedule's dues are, account by account; no Go text. -/
import Derived.Test.YthocnlalahknjaaGreatQPee
import Derived.Test.YthocnlalahknjaaGreatQPhh
namespace Go.Proofs.YthocnlalahknjaaGreat.Dd
set_option linter.unusedVariables false

theorem tw_filter {α : Type} (p : α → Bool) : ∀ (l : List α), l.Pairwise (fun x y => p y = true → p x = true) → l.takeWhile p = l.filter p ∧ l.drop (l.takeWhile p).length = l.filter (fun x => !p x)
  | [], _ => ⟨rfl, rfl⟩
  | x :: r, h => by
    obtain ⟨h1, h2⟩ := List.pairwise_cons.1 h
    obtain ⟨i1, i2⟩ := tw_filter p r h2
    by_cases hx : p x = true
    · rw [List.takeWhile_cons_of_pos hx, List.filter_cons_of_pos hx, List.filter_cons_of_neg (by simp [hx]), i1]
      refine ⟨rfl, ?_⟩
      rw [List.length_cons, List.drop_succ_cons, ← i1]
      exact i2
    · have hn : ∀ y ∈ r, p y = false := fun y hy => by
        cases hp : p y with
        | false => rfl
        | true => exact absurd (h1 y hy hp) hx
      rw [List.takeWhile_cons_of_neg hx, List.filter_cons_of_neg hx, List.filter_cons_of_pos (by simp [hx])]
      refine ⟨(List.filter_eq_nil_iff.2 fun y hy => by simp [hn y hy]).symm, ?_⟩
      rw [List.length_nil, List.drop_zero]
      congr 1
      exact (List.filter_eq_self.2 fun y hy => by simp [hn y hy]).symm
theorem take_tw {α : Type} (p : α → Bool) (l : List α) : l.take (l.takeWhile p).length = l.takeWhile p :=
  (List.prefix_iff_eq_take.1 (List.takeWhile_prefix p)).symm
/-- the dues of an account -/
def ofAcc (L : List Du) (m c : Int) : List Du := L.filter fun d => decide (d.m = m) && decide (d.c = c)
def sumK (L : List Du) (m c : Int) : Int := sumN (ofAcc L m c)
theorem sameK_fun (d : Du) : sameK d = fun e => decide (e.m = d.m) && decide (e.c = d.c) := by
  funext e; rw [Bool.eq_iff_iff, sameK_iff]; simp
theorem grp_take {d : Du} {r : List Du} (h : InOrder byAcc (d :: r)) : (d :: r).take (grpLen (d :: r)) = ofAcc (d :: r) d.m d.c ∧ (d :: r).drop (grpLen (d :: r)) = (d :: r).filter (fun e => !sameK d e) := by
  have hp : (d :: r).Pairwise fun x y => sameK d y = true → sameK d x = true := by
    have h1 : ∀ x ∈ r, ¬ byAcc x d < 0 := (List.pairwise_cons.1 h).1
    have hmem : ∀ x ∈ d :: r, ¬ byAcc x d < 0 := fun x hx => by
      rcases List.mem_cons.1 hx with rfl | hx
      · rw [byAcc_neg]; omega
      · exact h1 x hx
    refine List.Pairwise.imp_of_mem (fun {x y} hx hy hxy hy2 => ?_) h
    rw [sameK_iff] at hy2 ⊢
    have h2 := hmem x hx
    rw [byAcc_neg] at h2 hxy
    omega
  obtain ⟨h1, h2⟩ := tw_filter (sameK d) (d :: r) hp
  refine ⟨?_, h2⟩
  show (d :: r).take ((d :: r).takeWhile (sameK d)).length = _
  rw [take_tw, h1, sameK_fun]; rfl
theorem sumN_perm {L M : List Du} (h : L.Perm M) : sumN L = sumN M := by
  unfold sumN
  have : ∀ {a b : List Int}, a.Perm b → sumL a = sumL b := by
    intro a b hp
    induction hp with
    | nil => rfl
    | cons x _ ih => show x + _ = x + _; rw [ih]
    | swap x y l => show y + (x + sumL l) = x + (y + sumL l); omega
    | trans _ _ i1 i2 => exact i1.trans i2
  exact this (h.map _)
theorem sumK_perm {L M : List Du} (h : L.Perm M) (m c : Int) : sumK L m c = sumK M m c := sumN_perm (h.filter _)
/-- what behL tells -/
theorem behL_spec (rows : List (List Int)) (now : Int) : ∀ (n : Nat) (L : List Du), L.length ≤ n → InOrder byAcc L →
    ((∃ d ∈ L, 9223372036854775807 < sumK L d.m d.c) ∧ behL rows now n L = none) ∨
    ((∀ d ∈ L, sumK L d.m d.c ≤ 9223372036854775807) ∧ ∃ out, behL rows now n L = some out ∧ out.Pairwise (fun a b => byAcc a b < 0) ∧
      ∀ e, e ∈ out ↔ ∃ d ∈ L, d.m = e.m ∧ d.c = e.c ∧ e.t = now ∧ e.n = sumK L e.m e.c - payOf rows e.m.toNat e.c.toNat ∧ 0 < e.n)
  | 0, L, h, _ => by
    have : L = [] := List.length_eq_zero_iff.1 (by omega)
    subst this
    exact .inr ⟨fun d hd => (by cases hd), [], by simp [behL], List.Pairwise.nil, fun e => ⟨fun h => (by cases h), fun ⟨d, hd, _⟩ => (by cases hd)⟩⟩
  | n + 1, [], _, _ => .inr ⟨fun d hd => (by cases hd), [], by simp [behL], List.Pairwise.nil, fun e => ⟨fun h => (by cases h), fun ⟨d, hd, _⟩ => (by cases hd)⟩⟩
  | n + 1, d :: r, h, ho => by
    obtain ⟨h1, h2⟩ := grp_take ho
    have hgp := grpLen_pos (d := d) (r := r)
    obtain ⟨R, hR⟩ : ∃ R, R = (d :: r).filter (fun e => !sameK d e) := ⟨_, rfl⟩
    have hRl : R.length ≤ n := by
      rw [hR, ← h2, List.length_drop]; omega
    have hRo : InOrder byAcc R := by rw [hR]; exact List.Pairwise.filter _ ho
    have hRm : ∀ e, e ∈ R ↔ e ∈ d :: r ∧ ¬ (e.m = d.m ∧ e.c = d.c) := fun e => by
      rw [hR, List.mem_filter]
      have := sameK_iff (d := d) (e := e)
      cases hs : sameK d e with
      | true => simp [this.1 hs]
      | false => rw [hs] at this; simp at this; simp; exact fun _ => this
    have hRs : ∀ m c, ¬ (m = d.m ∧ c = d.c) → sumK R m c = sumK (d :: r) m c := fun m c hmc => by
      unfold sumK ofAcc
      rw [hR, List.filter_filter]
      congr 1
      apply List.filter_congr
      intro e he
      have := sameK_iff (d := d) (e := e)
      rw [Bool.eq_iff_iff]
      simp only [Bool.and_eq_true, decide_eq_true_eq, Bool.not_eq_true']
      constructor
      · exact fun h => h.1
      · intro h
        refine ⟨h, ?_⟩
        rw [← Bool.not_eq_true, this]
        rintro ⟨a, b⟩
        exact hmc ⟨by rw [← h.1, a], by rw [← h.2, b]⟩
    have hdef : behL rows now (n + 1) (d :: r) = (if sumK (d :: r) d.m d.c ≤ 9223372036854775807 then (behL rows now n R).map fun t => if 0 < sumK (d :: r) d.m d.c - payOf rows d.m.toNat d.c.toNat then ⟨d.m, d.c, now, sumK (d :: r) d.m d.c - payOf rows d.m.toNat d.c.toNat⟩ :: t else t else none) := by
      unfold sumK
      rw [← h1, hR, ← h2]; rfl
    by_cases hS : sumK (d :: r) d.m d.c ≤ 9223372036854775807
    · rw [if_pos hS] at hdef
      rcases behL_spec rows now n R hRl hRo with ⟨⟨x, hx, hxs⟩, hn⟩ | ⟨hall, out, ho2, hop, hom⟩
      · have hx2 := (hRm x).1 hx
        refine .inl ⟨⟨x, hx2.1, by rw [← hRs _ _ hx2.2]; exact hxs⟩, by rw [hdef, hn]; rfl⟩
      · have hall2 : ∀ x ∈ d :: r, sumK (d :: r) x.m x.c ≤ 9223372036854775807 := fun x hx => by
          by_cases hk : x.m = d.m ∧ x.c = d.c
          · rw [hk.1, hk.2]; exact hS
          · rw [← hRs _ _ hk]; exact hall x ((hRm x).2 ⟨hx, hk⟩)
        have hne : ∀ e ∈ out, ¬ (e.m = d.m ∧ e.c = d.c) := fun e he => by
          obtain ⟨x, hx, e1, e2, _⟩ := (hom e).1 he
          have := ((hRm x).1 hx).2
          rwa [e1, e2] at this
        have hmemO : ∀ e, e ∈ out ↔ (∃ x ∈ d :: r, x.m = e.m ∧ x.c = e.c ∧ e.t = now ∧ e.n = sumK (d :: r) e.m e.c - payOf rows e.m.toNat e.c.toNat ∧ 0 < e.n) ∧ ¬ (e.m = d.m ∧ e.c = d.c) := fun e => by
          rw [hom e]
          constructor
          · rintro ⟨x, hx, e1, e2, e3, e4, e5⟩
            have hx2 := (hRm x).1 hx
            have hk : ¬ (e.m = d.m ∧ e.c = d.c) := by rw [← e1, ← e2]; exact hx2.2
            exact ⟨⟨x, hx2.1, e1, e2, e3, by rw [← hRs _ _ hk]; exact e4, e5⟩, hk⟩
          · rintro ⟨⟨x, hx, e1, e2, e3, e4, e5⟩, hk⟩
            exact ⟨x, (hRm x).2 ⟨hx, by rw [e1, e2]; exact hk⟩, e1, e2, e3, by rw [hRs _ _ hk]; exact e4, e5⟩
        rw [ho2] at hdef
        by_cases hl : 0 < sumK (d :: r) d.m d.c - payOf rows d.m.toNat d.c.toNat
        · refine .inr ⟨hall2, ⟨d.m, d.c, now, sumK (d :: r) d.m d.c - payOf rows d.m.toNat d.c.toNat⟩ :: out, by rw [hdef, Option.map_some, if_pos hl], List.pairwise_cons.2 ⟨fun e he => ?_, hop⟩, fun e => ?_⟩
          · have hk := hne e he
            obtain ⟨x, hx, e1, e2, _⟩ := (hom e).1 he
            have hx2 := ((hRm x).1 hx).1
            have h9 : ¬ byAcc x d < 0 := by
              rcases List.mem_cons.1 hx2 with rfl | hx3
              · rw [byAcc_neg]; omega
              · exact (List.pairwise_cons.1 ho).1 x hx3
            rw [byAcc_neg] at h9 ⊢
            show d.m < e.m ∨ (d.m = e.m ∧ d.c < e.c)
            omega
          · rw [List.mem_cons, hmemO e]
            constructor
            · rintro (rfl | h3)
              · exact ⟨d, by simp, rfl, rfl, rfl, rfl, hl⟩
              · exact h3.1
            · intro h3
              by_cases hk : e.m = d.m ∧ e.c = d.c
              · left
                obtain ⟨x, _, _, _, e3, e4, _⟩ := h3
                obtain ⟨em, ec, et, en⟩ := e
                simp only at hk e3 e4 ⊢
                obtain ⟨rfl, rfl⟩ := hk
                subst e3; rw [e4]
              · exact .inr ⟨h3, hk⟩
        · refine .inr ⟨hall2, out, by rw [hdef, Option.map_some, if_neg hl], hop, fun e => ?_⟩
          rw [hmemO e]
          constructor
          · exact fun h3 => h3.1
          · intro h3
            refine ⟨h3, fun hk => ?_⟩
            obtain ⟨x, _, _, _, e3, e4, e5⟩ := h3
            rw [e4, hk.1, hk.2] at e5
            exact hl e5
    · rw [if_neg hS] at hdef
      exact .inl ⟨⟨d, by simp, by omega⟩, hdef⟩
end Go.Proofs.YthocnlalahknjaaGreat.Dd
namespace Go.Proofs.YthocnlalahknjaaGreat.Dd
set_option linter.unusedVariables false

theorem rises_all : ∀ {zs : List Int} {a : Int}, rises a zs = true → zs.Pairwise (· < ·) ∧ ∀ z ∈ zs, a < z
  | [], _, _ => ⟨List.Pairwise.nil, fun z h => by cases h⟩
  | x :: r, a, h => by
    unfold rises at h
    rw [Bool.and_eq_true, decide_eq_true_eq] at h
    obtain ⟨h1, h2⟩ := rises_all h.2
    refine ⟨List.pairwise_cons.2 ⟨h2, h1⟩, fun z hz => ?_⟩
    rcases List.mem_cons.1 hz with rfl | hz
    · exact h.1
    · have := h2 z hz; omega
theorem mayD_rise {zs : List Int} (h : mayD zs = true) : 1 ≤ zs.length ∧ zs.length ≤ 16 ∧ (∀ i j, i < j → j < zs.length → zs.getD i 0 < zs.getD j 0) ∧ ∀ z ∈ zs, 0 ≤ z := by
  unfold mayD at h
  simp only [Bool.and_eq_true, decide_eq_true_eq] at h
  obtain ⟨⟨h1, h2⟩, h3⟩ := h
  obtain ⟨h4, h5⟩ := rises_all h3
  refine ⟨h1, h2, fun i j hij hj => ?_, fun z hz => by have := h5 z hz; omega⟩
  rw [List.getD_eq_getElem?_getD, List.getD_eq_getElem?_getD, List.getElem?_eq_getElem hj, List.getElem?_eq_getElem (by omega)]
  exact List.pairwise_iff_getElem.1 h4 i j (by omega) hj hij
theorem duesUp_mem {m c : Int} {zs sh : List Int} {k : Nat} {d : Du} : d ∈ duesUp m c zs sh k ↔ ∃ i, i < k ∧ 0 < sh.getD i 0 ∧ d = ⟨m, c, zs.getD i 0, sh.getD i 0⟩ := by
  unfold duesUp
  rw [List.mem_filterMap]
  constructor
  · rintro ⟨i, hi, h⟩
    unfold dueAt at h
    split at h
    · injection h with h
      exact ⟨i, List.mem_range.1 hi, by assumption, h.symm⟩
    · cases h
  · rintro ⟨i, hi, h1, rfl⟩
    exact ⟨i, List.mem_range.2 hi, by unfold dueAt; rw [if_pos h1]⟩
/-- what holds of two that stand one behind the other -/
theorem duesUp_pair {m c : Int} {zs sh : List Int} (R : Du → Du → Prop) : ∀ (k : Nat), (∀ i j, i < j → j < k → 0 < sh.getD i 0 → 0 < sh.getD j 0 → R ⟨m, c, zs.getD i 0, sh.getD i 0⟩ ⟨m, c, zs.getD j 0, sh.getD j 0⟩) → (duesUp m c zs sh k).Pairwise R
  | 0, _ => List.Pairwise.nil
  | k + 1, h => by
    have ih := duesUp_pair R k fun i j hij hj => h i j hij (by omega)
    by_cases hk : 0 < sh.getD k 0
    · rw [duesUp_yes hk]
      refine List.pairwise_append.2 ⟨ih, List.pairwise_singleton _ _, fun a ha b hb => ?_⟩
      obtain rfl := List.mem_singleton.1 hb
      obtain ⟨i, hi, h1, rfl⟩ := duesUp_mem.1 ha
      exact h i k hi (by omega) h1 hk
    · rw [duesUp_no hk]; exact ih
theorem sumN_app (a b : List Du) : sumN (a ++ b) = sumN a + sumN b := by unfold sumN; rw [List.map_append, sumL_append]
theorem sumL_take_succ (l : List Int) (k : Nat) : sumL (l.take (k + 1)) = sumL (l.take k) + l.getD k 0 := by
  by_cases h : k < l.length
  · rw [List.take_succ_eq_append_getElem h, sumL_append, List.getD_eq_getElem?_getD, List.getElem?_eq_getElem h]
    show _ + (l[k] + 0) = _ + l[k]
    omega
  · rw [List.take_of_length_le (by omega), List.take_of_length_le (by omega), List.getD_eq_getElem?_getD, List.getElem?_eq_none (by omega)]
    show _ = _ + (0 : Int)
    omega
theorem duesUp_sum {m c : Int} {zs sh : List Int} (h0 : ∀ i, 0 ≤ sh.getD i 0) : ∀ k, sumN (duesUp m c zs sh k) = sumL (sh.take k)
  | 0 => rfl
  | k + 1 => by
    rw [sumL_take_succ, ← duesUp_sum (m := m) (c := c) (zs := zs) h0 k]
    by_cases hk : 0 < sh.getD k 0
    · rw [duesUp_yes hk, sumN_app]
      show _ + (sh.getD k 0 + 0) = _
      omega
    · rw [duesUp_no hk]; have := h0 k; omega
theorem ones_mem {n : Nat} {z : Int} (h : z ∈ List.replicate n (1 : Int)) : z = 1 := (List.mem_replicate.1 h).2
/-- the shares of a net below 0 -/
theorem even_facts {x : Int} {n : Nat} (hx : x < 0) (h1 : 1 ≤ n) :
    (∀ i, 0 ≤ (shares (-x) (List.replicate n 1)).getD i 0 ∧ (shares (-x) (List.replicate n 1)).getD i 0 ≤ -x) ∧ sumL (shares (-x) (List.replicate n 1)) = -x ∧
    (∀ i j, i < j → j < n → (shares (-x) (List.replicate n 1)).getD j 0 ≤ (shares (-x) (List.replicate n 1)).getD i 0) := by
  have hS : 1 ≤ sumL (List.replicate n 1) := by rw [sum_ones]; omega
  have hz : ∀ z ∈ List.replicate n (1 : Int), 0 ≤ z := fun z h => by rw [ones_mem h]; decide
  refine ⟨fun i => ?_, sum_shares (-x) _ hS, fun i j hij hj => ?_⟩
  · by_cases hi : i < n
    · have h2 := share_bd (-x) _ (by omega) hS hz i (by simpa using hi)
      rw [shares_at _ _ _ (by simpa using hi)]
      exact ⟨h2.1, h2.2.1⟩
    · rw [List.getD_eq_getElem?_getD, List.getElem?_eq_none (by rw [shares_len, List.length_replicate]; omega)]
      show (0 : Int) ≤ 0 ∧ (0 : Int) ≤ -x
      omega
  · have h2 := share_pair (-x) _ (by omega) hS hz i j (by simp; omega) (by simpa using hj)
    rw [shares_at _ _ i (by rw [List.length_replicate]; omega), shares_at _ _ j (by rw [List.length_replicate]; omega)]
    refine (h2.2 ?_).2 hij
    simp [List.getD_eq_getElem?_getD, show i < n by omega, hj]
theorem duesOf_facts {m c x : Int} {zs : List Int} (hD : mayD zs = true) (hx : x < 0) :
    sumN (duesOf m c x zs) = -x ∧ (duesOf m c x zs).Pairwise (fun a b => b.n ≤ a.n) ∧ (duesOf m c x zs).Pairwise (fun a b => a.t < b.t) ∧
    ∀ d ∈ duesOf m c x zs, d.m = m ∧ d.c = c ∧ 1 ≤ d.n ∧ d.n ≤ -x ∧ d.t ∈ zs := by
  obtain ⟨h1, h16, hr, hz0⟩ := mayD_rise hD
  obtain ⟨e1, e2, e3⟩ := even_facts hx h1
  refine ⟨?_, duesUp_pair _ _ fun i j hij hj _ _ => e3 i j hij hj, duesUp_pair _ _ fun i j hij hj _ _ => hr i j hij hj, fun d hd => ?_⟩
  · unfold duesOf
    rw [duesUp_sum (fun i => (e1 i).1), List.take_of_length_le (by rw [shares_len, List.length_replicate]; exact Nat.le_refl _)]
    exact e2
  · obtain ⟨i, hi, h2, rfl⟩ := duesUp_mem.1 hd
    refine ⟨rfl, rfl, h2, (e1 i).2, ?_⟩
    show zs.getD i 0 ∈ zs
    rw [List.getD_eq_getElem?_getD, List.getElem?_eq_getElem hi]; exact List.getElem_mem _
theorem duesOf_order {m c x : Int} {zs : List Int} (hD : mayD zs = true) (hx : x < 0) : InOrder byTk (duesOf m c x zs) := by
  refine List.Pairwise.imp (fun {a b} h => ?_) (duesOf_facts (m := m) (c := c) hD hx).2.2.1
  rw [byTk_neg, byAcc_neg]; omega
/-- the dues of an account among all -/
theorem ofAcc_row (zs : List Int) (hD : mayD zs = true) (m : Nat) (row : List Int) (c : Nat) : ∀ k, ofAcc (rowD zs m row k) m c = if c < k ∧ row.getD c 0 < 0 then duesOf m c (row.getD c 0) zs else []
  | 0 => by simp [rowD, ofAcc]
  | k + 1 => by
    rw [rowD_succ]
    unfold ofAcc
    rw [List.filter_append]
    have ih := ofAcc_row zs hD m row c k
    unfold ofAcc at ih
    rw [ih]
    by_cases hk : c = k
    · subst hk
      rw [if_neg (by omega), List.nil_append]
      by_cases hx : row.getD c 0 < 0
      · rw [if_pos hx, if_pos ⟨by omega, hx⟩, List.filter_eq_self]
        intro d hd
        obtain ⟨e1, e2, _⟩ := (duesOf_facts hD hx).2.2.2 d hd
        simp [e1, e2]
      · rw [if_neg hx, if_neg (by omega)]; rfl
    · have h0 : (if row.getD k 0 < 0 then duesOf m k (row.getD k 0) zs else []).filter (fun d : Du => decide (d.m = (m : Int)) && decide (d.c = (c : Int))) = [] := by
        rw [List.filter_eq_nil_iff]
        intro d hd
        split at hd
        · obtain ⟨e1, e2, _⟩ := (duesOf_facts hD (by assumption)).2.2.2 d hd
          simp only [e2, Bool.and_eq_true, decide_eq_true_eq]
          omega
        · cases hd
      rw [h0, List.append_nil]
      by_cases hx : c < k ∧ row.getD c 0 < 0
      · rw [if_pos hx, if_pos ⟨by omega, hx.2⟩]
      · rw [if_neg hx, if_neg (by omega)]
theorem rowD_mem {zs : List Int} {m : Nat} {row : List Int} {d : Du} : ∀ {k : Nat}, d ∈ rowD zs m row k → ∃ c, c < k ∧ row.getD c 0 < 0 ∧ d ∈ duesOf m c (row.getD c 0) zs
  | 0, h => by simp [rowD] at h
  | k + 1, h => by
    rw [rowD_succ, List.mem_append] at h
    rcases h with h | h
    · obtain ⟨c, h1, h2⟩ := rowD_mem h; exact ⟨c, by omega, h2⟩
    · split at h
      · exact ⟨k, by omega, by assumption, h⟩
      · cases h
theorem allD_mem {zs : List Int} {rows : List (List Int)} {d : Du} : ∀ {k : Nat}, d ∈ allD zs rows k → ∃ m, m < k ∧ ∃ c, c < (rows.getD m []).length ∧ (rows.getD m []).getD c 0 < 0 ∧ d ∈ duesOf m c ((rows.getD m []).getD c 0) zs
  | 0, h => by simp [allD] at h
  | k + 1, h => by
    rw [allD_succ, List.mem_append] at h
    rcases h with h | h
    · obtain ⟨m, h1, h2⟩ := allD_mem h; exact ⟨m, by omega, h2⟩
    · exact ⟨k, by omega, rowD_mem h⟩
theorem ofAcc_all (zs : List Int) (hD : mayD zs = true) (rows : List (List Int)) (m c : Nat) : ∀ k, ofAcc (allD zs rows k) m c = if m < k ∧ c < (rows.getD m []).length ∧ (rows.getD m []).getD c 0 < 0 then duesOf m c ((rows.getD m []).getD c 0) zs else []
  | 0 => by simp [allD, ofAcc]
  | k + 1 => by
    have ih := ofAcc_all zs hD rows m c k
    have h2 := ofAcc_row zs hD k (rows.getD k []) c (rows.getD k []).length
    rw [allD_succ]
    have happ : ofAcc (allD zs rows k ++ rowD zs k (rows.getD k []) (rows.getD k []).length) m c = ofAcc (allD zs rows k) m c ++ ofAcc (rowD zs k (rows.getD k []) (rows.getD k []).length) m c := by unfold ofAcc; rw [List.filter_append]
    rw [happ, ih]
    by_cases hk : m = k
    · subst hk
      rw [if_neg (by omega), List.nil_append, h2]
      by_cases hx : c < (rows.getD m []).length ∧ (rows.getD m []).getD c 0 < 0
      · rw [if_pos hx, if_pos ⟨by omega, hx⟩]
      · rw [if_neg hx, if_neg (fun h => hx h.2)]
    · have h0 : ofAcc (rowD zs k (rows.getD k []) (rows.getD k []).length) m c = [] := by
        unfold ofAcc
        rw [List.filter_eq_nil_iff]
        intro d hd
        obtain ⟨c2, _, hx, hd2⟩ := rowD_mem hd
        obtain ⟨e1, _⟩ := (duesOf_facts hD hx).2.2.2 d hd2
        simp only [e1, Bool.and_eq_true, decide_eq_true_eq]
        omega
      rw [h0, List.append_nil]
      by_cases hx : m < k ∧ c < (rows.getD m []).length ∧ (rows.getD m []).getD c 0 < 0
      · rw [if_pos hx, if_pos ⟨by omega, hx.2⟩]
      · rw [if_neg hx, if_neg (fun h => hx ⟨by omega, h.2⟩)]
/-- a schedule's dues of an account -/
theorem sched_acc {zs : List Int} {rows : List (List Int)} {L : List Du} (hD : mayD zs = true) (hp : L.Perm (allD zs rows rows.length)) (ho : InOrder byTk L) (m c : Nat) :
    ofAcc L m c = if m < rows.length ∧ c < (rows.getD m []).length ∧ (rows.getD m []).getD c 0 < 0 then duesOf m c ((rows.getD m []).getD c 0) zs else [] := by
  have h1 : (ofAcc L m c).Perm (ofAcc (allD zs rows rows.length) m c) := hp.filter _
  rw [ofAcc_all zs hD] at h1
  by_cases hx : m < rows.length ∧ c < (rows.getD m []).length ∧ (rows.getD m []).getD c 0 < 0
  · rw [if_pos hx] at h1 ⊢
    obtain ⟨_, _, h3, h4⟩ := duesOf_facts (m := (m : Int)) (c := (c : Int)) hD hx.2.2
    refine order_eq h1 (List.Pairwise.filter _ ho) (duesOf_order hD hx.2.2) fun x hx1 y hy1 ht _ _ => ?_
    apply Classical.byContradiction
    intro hne
    obtain ⟨i, hi, rfl⟩ := List.mem_iff_getElem.1 hx1
    obtain ⟨j, hj, rfl⟩ := List.mem_iff_getElem.1 hy1
    rcases Nat.lt_trichotomy i j with h | h | h
    · have := List.pairwise_iff_getElem.1 h3 i j hi hj h; omega
    · subst h; exact hne rfl
    · have := List.pairwise_iff_getElem.1 h3 j i hj hi h; omega
  · rw [if_neg hx] at h1 ⊢
    exact List.Perm.eq_nil h1
theorem sched_mem {zs : List Int} {rows : List (List Int)} {L : List Du} (hD : mayD zs = true) (hp : L.Perm (allD zs rows rows.length)) {d : Du} (hd : d ∈ L) :
    ∃ m c : Nat, m < rows.length ∧ c < (rows.getD m []).length ∧ (rows.getD m []).getD c 0 < 0 ∧ d.m = m ∧ d.c = c ∧ 1 ≤ d.n ∧ d.n ≤ -(rows.getD m []).getD c 0 ∧ d.t ∈ zs := by
  obtain ⟨m, hm, c, hc, hx, hd2⟩ := allD_mem (hp.mem_iff.1 hd)
  obtain ⟨e1, e2, e3, e4, e5⟩ := (duesOf_facts hD hx).2.2.2 d hd2
  exact ⟨m, c, hm, hc, hx, e1, e2, e3, e4, e5⟩
end Go.Proofs.YthocnlalahknjaaGreat.Dd
