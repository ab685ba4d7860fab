/- What Behind tells, account by account; no Go text. -/
import Derived.Test.YthocnlalahknjaaGreatQPL
namespace Go.Proofs.YthocnlalahknjaaGreat.Dd
set_option linter.unusedVariables false

theorem tw_filter {α : Type} (p : α → Bool) : ∀ (l : List α), l.Pairwise (fun x y => p y = true → p x = true) → l.takeWhile p = l.filter p ∧ l.drop (l.takeWhile p).length = l.filter (fun x => !p x)
  | [], _ => ⟨rfl, rfl⟩
  | x :: r, h => by
    obtain ⟨h1, h2⟩ := List.pairwise_cons.1 h
    obtain ⟨i1, i2⟩ := tw_filter p r h2
    by_cases hx : p x = true
    · rw [List.takeWhile_cons_of_pos hx, List.filter_cons_of_pos hx, List.filter_cons_of_neg (by simp [hx]), i1]
      refine ⟨rfl, ?_⟩
      rw [List.length_cons, List.drop_succ_cons, ← i1]
      exact i2
    · have hn : ∀ y ∈ r, p y = false := fun y hy => by
        cases hp : p y with
        | false => rfl
        | true => exact absurd (h1 y hy hp) hx
      rw [List.takeWhile_cons_of_neg hx, List.filter_cons_of_neg hx, List.filter_cons_of_pos (by simp [hx])]
      refine ⟨(List.filter_eq_nil_iff.2 fun y hy => by simp [hn y hy]).symm, ?_⟩
      rw [List.length_nil, List.drop_zero]
      congr 1
      exact (List.filter_eq_self.2 fun y hy => by simp [hn y hy]).symm
theorem take_tw {α : Type} (p : α → Bool) (l : List α) : l.take (l.takeWhile p).length = l.takeWhile p :=
  (List.prefix_iff_eq_take.1 (List.takeWhile_prefix p)).symm
/-- the dues of an account -/
def ofAcc (L : List Du) (m c : Int) : List Du := L.filter fun d => decide (d.m = m) && decide (d.c = c)
def sumK (L : List Du) (m c : Int) : Int := sumN (ofAcc L m c)
theorem sameK_fun (d : Du) : sameK d = fun e => decide (e.m = d.m) && decide (e.c = d.c) := by
  funext e; rw [Bool.eq_iff_iff, sameK_iff]; simp
theorem grp_take {d : Du} {r : List Du} (h : InOrder byAcc (d :: r)) : (d :: r).take (grpLen (d :: r)) = ofAcc (d :: r) d.m d.c ∧ (d :: r).drop (grpLen (d :: r)) = (d :: r).filter (fun e => !sameK d e) := by
  have hp : (d :: r).Pairwise fun x y => sameK d y = true → sameK d x = true := by
    have h1 : ∀ x ∈ r, ¬ byAcc x d < 0 := (List.pairwise_cons.1 h).1
    have hmem : ∀ x ∈ d :: r, ¬ byAcc x d < 0 := fun x hx => by
      rcases List.mem_cons.1 hx with rfl | hx
      · rw [byAcc_neg]; omega
      · exact h1 x hx
    refine List.Pairwise.imp_of_mem (fun {x y} hx hy hxy hy2 => ?_) h
    rw [sameK_iff] at hy2 ⊢
    have h2 := hmem x hx
    rw [byAcc_neg] at h2 hxy
    omega
  obtain ⟨h1, h2⟩ := tw_filter (sameK d) (d :: r) hp
  refine ⟨?_, h2⟩
  show (d :: r).take ((d :: r).takeWhile (sameK d)).length = _
  rw [take_tw, h1, sameK_fun]; rfl
theorem sumN_perm {L M : List Du} (h : L.Perm M) : sumN L = sumN M := by
  unfold sumN
  have : ∀ {a b : List Int}, a.Perm b → sumL a = sumL b := by
    intro a b hp
    induction hp with
    | nil => rfl
    | cons x _ ih => show x + _ = x + _; rw [ih]
    | swap x y l => show y + (x + sumL l) = x + (y + sumL l); omega
    | trans _ _ i1 i2 => exact i1.trans i2
  exact this (h.map _)
theorem sumK_perm {L M : List Du} (h : L.Perm M) (m c : Int) : sumK L m c = sumK M m c := sumN_perm (h.filter _)
/-- what behL tells -/
theorem behL_spec (rows : List (List Int)) (now : Int) : ∀ (n : Nat) (L : List Du), L.length ≤ n → InOrder byAcc L →
    ((∃ d ∈ L, 9223372036854775807 < sumK L d.m d.c) ∧ behL rows now n L = none) ∨
    ((∀ d ∈ L, sumK L d.m d.c ≤ 9223372036854775807) ∧ ∃ out, behL rows now n L = some out ∧ out.Pairwise (fun a b => byAcc a b < 0) ∧
      ∀ e, e ∈ out ↔ ∃ d ∈ L, d.m = e.m ∧ d.c = e.c ∧ e.t = now ∧ e.n = sumK L e.m e.c - payOf rows e.m.toNat e.c.toNat ∧ 0 < e.n)
  | 0, L, h, _ => by
    have : L = [] := List.length_eq_zero_iff.1 (by omega)
    subst this
    exact .inr ⟨fun d hd => (by cases hd), [], by simp [behL], List.Pairwise.nil, fun e => ⟨fun h => (by cases h), fun ⟨d, hd, _⟩ => (by cases hd)⟩⟩
  | n + 1, [], _, _ => .inr ⟨fun d hd => (by cases hd), [], by simp [behL], List.Pairwise.nil, fun e => ⟨fun h => (by cases h), fun ⟨d, hd, _⟩ => (by cases hd)⟩⟩
  | n + 1, d :: r, h, ho => by
    obtain ⟨h1, h2⟩ := grp_take ho
    have hgp := grpLen_pos (d := d) (r := r)
    obtain ⟨R, hR⟩ : ∃ R, R = (d :: r).filter (fun e => !sameK d e) := ⟨_, rfl⟩
    have hRl : R.length ≤ n := by
      rw [hR, ← h2, List.length_drop]; omega
    have hRo : InOrder byAcc R := by rw [hR]; exact List.Pairwise.filter _ ho
    have hRm : ∀ e, e ∈ R ↔ e ∈ d :: r ∧ ¬ (e.m = d.m ∧ e.c = d.c) := fun e => by
      rw [hR, List.mem_filter]
      have := sameK_iff (d := d) (e := e)
      cases hs : sameK d e with
      | true => simp [this.1 hs]
      | false => rw [hs] at this; simp at this; simp; exact fun _ => this
    have hRs : ∀ m c, ¬ (m = d.m ∧ c = d.c) → sumK R m c = sumK (d :: r) m c := fun m c hmc => by
      unfold sumK ofAcc
      rw [hR, List.filter_filter]
      congr 1
      apply List.filter_congr
      intro e he
      have := sameK_iff (d := d) (e := e)
      rw [Bool.eq_iff_iff]
      simp only [Bool.and_eq_true, decide_eq_true_eq, Bool.not_eq_true']
      constructor
      · exact fun h => h.1
      · intro h
        refine ⟨h, ?_⟩
        rw [← Bool.not_eq_true, this]
        rintro ⟨a, b⟩
        exact hmc ⟨by rw [← h.1, a], by rw [← h.2, b]⟩
    have hdef : behL rows now (n + 1) (d :: r) = (if sumK (d :: r) d.m d.c ≤ 9223372036854775807 then (behL rows now n R).map fun t => if 0 < sumK (d :: r) d.m d.c - payOf rows d.m.toNat d.c.toNat then ⟨d.m, d.c, now, sumK (d :: r) d.m d.c - payOf rows d.m.toNat d.c.toNat⟩ :: t else t else none) := by
      unfold sumK
      rw [← h1, hR, ← h2]; rfl
    by_cases hS : sumK (d :: r) d.m d.c ≤ 9223372036854775807
    · rw [if_pos hS] at hdef
      rcases behL_spec rows now n R hRl hRo with ⟨⟨x, hx, hxs⟩, hn⟩ | ⟨hall, out, ho2, hop, hom⟩
      · have hx2 := (hRm x).1 hx
        refine .inl ⟨⟨x, hx2.1, by rw [← hRs _ _ hx2.2]; exact hxs⟩, by rw [hdef, hn]; rfl⟩
      · have hall2 : ∀ x ∈ d :: r, sumK (d :: r) x.m x.c ≤ 9223372036854775807 := fun x hx => by
          by_cases hk : x.m = d.m ∧ x.c = d.c
          · rw [hk.1, hk.2]; exact hS
          · rw [← hRs _ _ hk]; exact hall x ((hRm x).2 ⟨hx, hk⟩)
        have hne : ∀ e ∈ out, ¬ (e.m = d.m ∧ e.c = d.c) := fun e he => by
          obtain ⟨x, hx, e1, e2, _⟩ := (hom e).1 he
          have := ((hRm x).1 hx).2
          rwa [e1, e2] at this
        have hmemO : ∀ e, e ∈ out ↔ (∃ x ∈ d :: r, x.m = e.m ∧ x.c = e.c ∧ e.t = now ∧ e.n = sumK (d :: r) e.m e.c - payOf rows e.m.toNat e.c.toNat ∧ 0 < e.n) ∧ ¬ (e.m = d.m ∧ e.c = d.c) := fun e => by
          rw [hom e]
          constructor
          · rintro ⟨x, hx, e1, e2, e3, e4, e5⟩
            have hx2 := (hRm x).1 hx
            have hk : ¬ (e.m = d.m ∧ e.c = d.c) := by rw [← e1, ← e2]; exact hx2.2
            exact ⟨⟨x, hx2.1, e1, e2, e3, by rw [← hRs _ _ hk]; exact e4, e5⟩, hk⟩
          · rintro ⟨⟨x, hx, e1, e2, e3, e4, e5⟩, hk⟩
            exact ⟨x, (hRm x).2 ⟨hx, by rw [e1, e2]; exact hk⟩, e1, e2, e3, by rw [hRs _ _ hk]; exact e4, e5⟩
        rw [ho2] at hdef
        by_cases hl : 0 < sumK (d :: r) d.m d.c - payOf rows d.m.toNat d.c.toNat
        · refine .inr ⟨hall2, ⟨d.m, d.c, now, sumK (d :: r) d.m d.c - payOf rows d.m.toNat d.c.toNat⟩ :: out, by rw [hdef, Option.map_some, if_pos hl], List.pairwise_cons.2 ⟨fun e he => ?_, hop⟩, fun e => ?_⟩
          · have hk := hne e he
            obtain ⟨x, hx, e1, e2, _⟩ := (hom e).1 he
            have hx2 := ((hRm x).1 hx).1
            have h9 : ¬ byAcc x d < 0 := by
              rcases List.mem_cons.1 hx2 with rfl | hx3
              · rw [byAcc_neg]; omega
              · exact (List.pairwise_cons.1 ho).1 x hx3
            rw [byAcc_neg] at h9 ⊢
            show d.m < e.m ∨ (d.m = e.m ∧ d.c < e.c)
            omega
          · rw [List.mem_cons, hmemO e]
            constructor
            · rintro (rfl | h3)
              · exact ⟨d, by simp, rfl, rfl, rfl, rfl, hl⟩
              · exact h3.1
            · intro h3
              by_cases hk : e.m = d.m ∧ e.c = d.c
              · left
                obtain ⟨x, _, _, _, e3, e4, _⟩ := h3
                obtain ⟨em, ec, et, en⟩ := e
                simp only at hk e3 e4 ⊢
                obtain ⟨rfl, rfl⟩ := hk
                subst e3; rw [e4]
              · exact .inr ⟨h3, hk⟩
        · refine .inr ⟨hall2, out, by rw [hdef, Option.map_some, if_neg hl], hop, fun e => ?_⟩
          rw [hmemO e]
          constructor
          · exact fun h3 => h3.1
          · intro h3
            refine ⟨h3, fun hk => ?_⟩
            obtain ⟨x, _, _, _, e3, e4, e5⟩ := h3
            rw [e4, hk.1, hk.2] at e5
            exact hl e5
    · rw [if_neg hS] at hdef
      exact .inl ⟨⟨d, by simp, by omega⟩, hdef⟩
end Go.Proofs.YthocnlalahknjaaGreat.Dd
