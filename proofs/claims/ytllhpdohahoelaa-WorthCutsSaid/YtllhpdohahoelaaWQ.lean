/- A greater haircut never lets a net worth be greater: the numbers, and the law's walk. -/
import Derived.Test.YtllhpdohahoelaaWO
namespace Go.Proofs.Ytllhpdohahoelaa
open Go.RowKit
set_option linter.unusedVariables false

theorem worth_mono {c d : Cur} {a : Int} (hr : d.rate = c.rate) (h0 : 1 ≤ c.rate) (hc : c.cut ≤ d.cut) : worthT d a ≤ worthT c a := by
  unfold worthT muldiv
  simp only [Bool.false_eq_true, if_false]
  refine Int.ediv_le_ediv (by decide) ?_
  rw [hr]
  unfold partOf
  by_cases ha : a < 0
  · rw [if_pos ha, if_pos ha]
    exact Int.mul_le_mul_of_nonpos_left (by omega) (Int.mul_le_mul_of_nonneg_left (by omega) (by omega))
  · rw [if_neg ha, if_neg ha]
    exact Int.mul_le_mul_of_nonneg_left (Int.mul_le_mul_of_nonneg_left (by omega) (by omega)) (by omega)
theorem net_mono {t u : List Cur} {b : Nat → Int} (h : ∀ i, worthT (cAt u i) (b i) ≤ worthT (cAt t i) (b i)) : ∀ n c s r, r ≤ s → (netF t b n c s).2 = 0 → (netF u b n c r).2 = 0 → (netF u b n c r).1 ≤ (netF t b n c s).1
  | 0, c, s, r, hs, _, _ => hs
  | n + 1, c, s, r, hs, h1, h2 => by
    rw [netF] at h1 h2 ⊢
    by_cases e1 : In64 (worthT (cAt t c) (b c)) ∧ In64 (s + worthT (cAt t c) (b c))
    · rw [if_pos e1] at h1
      by_cases e2 : In64 (worthT (cAt u c) (b c)) ∧ In64 (r + worthT (cAt u c) (b c))
      · rw [if_pos e2] at h2
        rw [netF, if_pos e1, if_pos e2]
        exact net_mono h n (c + 1) _ _ (by have := h c; omega) h1 h2
      · rw [if_neg e2] at h2; exact absurd h2 (by decide)
    · rw [if_neg e1] at h1; exact absurd h1 (by decide)
theorem short_rate {t u : List Cur} {b : Nat → Int} (h : ∀ i, (cAt u i).rate = (cAt t i).rate) : ∀ n c s, shortF u b n c s = shortF t b n c s
  | 0, c, s => rfl
  | n + 1, c, s => by
    have e : plainT (cAt u c) (b c) = plainT (cAt t c) (b c) := by unfold plainT; rw [h c]
    rw [shortF, shortF, e, short_rate h n, short_rate h n]
theorem short_pos {t : List Cur} {b : Nat → Int} : ∀ n c s, (∀ i, c ≤ i → i < c + n → oobB (cAt t i) = false) → 0 ≤ s → 0 ≤ (shortF t b n c s).1
  | 0, c, s, _, hs => hs
  | n + 1, c, s, h, hs => by
    have hr : ∀ i, c + 1 ≤ i → i < c + 1 + n → oobB (cAt t i) = false := fun i h1 h2 => h i (by omega) (by omega)
    rw [shortF]
    split
    · exact short_pos n _ _ hr hs
    · rename_i hb
      split
      · exact short_pos n _ _ hr (by have := plain_neg (h c (by omega) (by omega)) hb; omega)
      · decide
theorem cAt_set (cs : List Cur) (k : Nat) (v : Cur) (i : Nat) : cAt (cs.set k v) i = if i = k ∧ k < cs.length then v else cAt cs i := by
  unfold cAt
  rw [List.getD_eq_getElem?_getD, List.getElem?_set]
  by_cases e : k = i
  · subst e
    by_cases h : k < cs.length
    · rw [if_pos rfl, if_pos h, if_pos ⟨rfl, h⟩]; rfl
    · rw [if_pos rfl, if_neg h, if_neg (fun x => h x.2), List.getD_eq_getElem?_getD, List.getElem?_eq_none (by omega)]
  · rw [if_neg e, if_neg (fun x => e x.1.symm), List.getD_eq_getElem?_getD]
theorem cutt_ok {x : WM} {c a : Int} (h : (x.cutt c a).1 = 0) : ∃ k : Nat, c = k ∧ k < x.cs.length ∧ (x.cutt c a).2 = ⟨x.cs.set k { cAt x.cs k with cut := a }, x.nm, x.S⟩ ∧ chkT (x.cs.set k { cAt x.cs k with cut := a }) = 0 := by
  unfold WM.cutt at h ⊢
  by_cases hc : 0 ≤ c ∧ c < x.cs.length
  · rw [if_pos hc] at h
    refine ⟨c.toNat, by omega, by omega, ?_⟩
    rw [if_pos hc]
    unfold WM.by at h ⊢
    by_cases hk : chkT (x.cs.set c.toNat { cAt x.cs c.toNat with cut := a }) = 0
    · rw [if_pos hk]; exact ⟨rfl, hk⟩
    · rw [if_neg hk] at h; exact absurd (show (1 : Int) = 0 from h) (by decide)
  · rw [if_neg hc] at h; exact absurd (show (1 : Int) = 0 from h) (by decide)
/-- two haircuts, one after the other -/
theorem cuts_fact {x y z : WM} {c low high : Int} (h1 : x.cutt c low = (0, y)) (h2 : y.cutt c high = (0, z)) (hlh : low ≤ high) {j : Nat} (hj : j < x.nm) :
    z.short (j : Int) = y.short (j : Int) ∧ ((y.net (j : Int)).2 = 0 → (z.net (j : Int)).2 = 0 → (z.net (j : Int)).1 ≤ (y.net (j : Int)).1) ∧ 0 ≤ (y.short (j : Int)).1 := by
  obtain ⟨k, rfl, hk, e1, c1⟩ := cutt_ok (x := x) (c := c) (a := low) (by rw [h1])
  rw [h1] at e1
  obtain ⟨k', hkk, hk', e2, c2⟩ := cutt_ok (x := y) (c := (k : Int)) (a := high) (by rw [h2])
  obtain rfl : k = k' := by omega
  rw [h2] at e2
  dsimp only at e1 e2
  subst e2
  have hy1 : y.nm = x.nm := by rw [e1]
  have hyk : (cAt y.cs k).cut = low := by rw [e1]; show (cAt (x.cs.set k _) k).cut = low; rw [cAt_set, if_pos ⟨rfl, hk⟩]
  have hyc : chkT y.cs = 0 := by rw [e1]; exact c1
  have e3 : y.has (j : Int) = true := by unfold WM.has; simp; omega
  have e4 : (⟨y.cs.set k { cAt y.cs k with cut := high }, y.nm, y.S⟩ : WM).has (j : Int) = true := e3
  have hlen : (y.cs.set k { cAt y.cs k with cut := high }).length = y.cs.length := List.length_set ..
  unfold WM.short WM.net
  rw [e3, e4, if_pos rfl, if_pos rfl, if_pos rfl, if_pos rfl]
  dsimp only
  rw [hlen]
  refine ⟨short_rate (fun i => ?_) _ _ _, fun a1 a2 => net_mono (fun i => ?_) _ _ _ _ (Int.le_refl _) a1 a2, short_pos _ _ _ (fun i _ hi => (chk_ok hyc).2.2.1 i (by omega)) (by decide)⟩
  · rw [cAt_set]
    split
    · rename_i h; rw [h.1]
    · rfl
  · rw [cAt_set]
    split
    · rename_i h
      rw [h.1]
      exact worth_mono rfl (oob_no ((chk_ok hyc).2.2.1 k h.2)).1 (by show (cAt y.cs k).cut ≤ high; rw [hyk]; exact hlh)
    · exact Int.le_refl _
theorem cutt_err (x : WM) (c a : Int) : (x.cutt c a).1 = 0 ∨ (x.cutt c a).1 = 1 := by
  unfold WM.cutt WM.by
  split
  · split
    · exact .inl rfl
    · exact .inr rfl
  · exact .inr rfl
end Go.Proofs.Ytllhpdohahoelaa
