/- What balances are worth and what they are short, as numbers.
  What a member would be worth behind postings, as numbers. -/
import Derived.Test.YtljclgphgojphaaP4
import Derived.Test.YtljclgphgojphaaLG1
namespace Go.Proofs.Ytljclgphgojphaa
open Go.RowKit
set_option linter.unusedVariables false

/-- n currencies from c on, one after the other: what balances are worth, with their haircuts -/
def netF (t : List Cur) (b : Nat → Int) : Nat → Nat → Int → Int × Int
  | 0, _, s => (s, 0)
  | n + 1, c, s => if In64 (worthT (cAt t c) (b c)) ∧ In64 (s + worthT (cAt t c) (b c)) then netF t b n (c + 1) (s + worthT (cAt t c) (b c)) else (0, 3)
/-- likewise: what they are short -/
def shortF (t : List Cur) (b : Nat → Int) : Nat → Nat → Int → Int × Int
  | 0, _, s => (s, 0)
  | n + 1, c, s => if 0 ≤ b c then shortF t b n (c + 1) s else
      if In64 (plainT (cAt t c) (b c)) ∧ In64 (-plainT (cAt t c) (b c)) ∧ In64 (s + -plainT (cAt t c) (b c)) then shortF t b n (c + 1) (s + -plainT (cAt t c) (b c)) else (0, 3)
theorem chain1_yes {x y : Int} (h : In64 (x + y)) : chainL x [y] = (x + y, 0) := by unfold In64 at h; rw [chainL, if_pos h, chainL]
theorem chain1_no {x y : Int} (h : ¬ In64 (x + y)) : chainL x [y] = (0, 3) := by unfold In64 at h; rw [chainL, if_neg h]
theorem fit_in {x : Int} (h : In64 x) : fitV x = x ∧ fitE x = 0 := by unfold In64 at h; unfold fitV fitE; rw [if_pos h, if_pos h]; exact ⟨rfl, rfl⟩
theorem fit_out {x : Int} (h : ¬ In64 x) : fitV x = 0 ∧ fitE x = 3 := by unfold In64 at h; unfold fitV fitE; rw [if_neg h, if_neg h]; exact ⟨rfl, rfl⟩

/-- the worths of n currencies from c on -/
def worths (t : List Cur) (b : Nat → Int) : Nat → Nat → List Int
  | 0, _ => []
  | n + 1, c => worthT (cAt t c) (b c) :: worths t b n (c + 1)
theorem worths_snoc (t : List Cur) (b : Nat → Int) : ∀ n c, worths t b (n + 1) c = worths t b n c ++ [worthT (cAt t (c + n)) (b (c + n))]
  | 0, c => rfl
  | n + 1, c => by
    rw [worths, worths_snoc t b n (c + 1), worths, List.cons_append, show c + 1 + n = c + (n + 1) from by omega]
theorem worths_len (t : List Cur) (b : Nat → Int) : ∀ n c, (worths t b n c).length = n
  | 0, c => rfl
  | n + 1, c => by rw [worths, List.length_cons, worths_len t b n (c + 1)]
theorem chain_step (s z : Int) (zs : List Int) : chainL s (z :: zs) = if In64 (s + z) then chainL (s + z) zs else (0, 3) := rfl
theorem net_chain (t : List Cur) (b : Nat → Int) : ∀ n c s, (∀ i, i < n → In64 (worthT (cAt t (c + i)) (b (c + i)))) → netF t b n c s = chainL s (worths t b n c)
  | 0, c, s, _ => rfl
  | n + 1, c, s, h => by
    have h0 := h 0 (by omega)
    rw [Nat.add_zero] at h0
    rw [netF, worths, chain_step]
    by_cases h1 : In64 (s + worthT (cAt t c) (b c))
    · rw [if_pos ⟨h0, h1⟩, if_pos h1]
      exact net_chain t b n (c + 1) _ fun i hi => by rw [show c + 1 + i = c + (i + 1) from by omega]; exact h (i + 1) (by omega)
    · rw [if_neg (fun e => h1 e.2), if_neg h1]
theorem net_fail (t : List Cur) (b : Nat → Int) : ∀ n c s i, i < n → ¬ In64 (worthT (cAt t (c + i)) (b (c + i))) → netF t b n c s = (0, 3)
  | 0, c, s, i, hi, _ => by omega
  | n + 1, c, s, 0, _, h => by
    rw [Nat.add_zero] at h
    rw [netF, if_neg (fun e => h e.1)]
  | n + 1, c, s, i + 1, hi, h => by
    rw [netF]
    split
    · exact net_fail t b n (c + 1) _ i (by omega) (by rw [show c + 1 + i = c + (i + 1) from by omega]; exact h)
    · rfl
/-- a currency's part of what is short can be told -/
def sOk (t : List Cur) (b : Nat → Int) (i : Nat) : Prop := 0 ≤ b i ∨ In64 (plainT (cAt t i) (b i)) ∧ In64 (-plainT (cAt t i) (b i))
/-- what is short, of n currencies from c on -/
def shorts (t : List Cur) (b : Nat → Int) : Nat → Nat → List Int
  | 0, _ => []
  | n + 1, c => if 0 ≤ b c then shorts t b n (c + 1) else -plainT (cAt t c) (b c) :: shorts t b n (c + 1)
theorem shorts_snoc (t : List Cur) (b : Nat → Int) : ∀ n c, shorts t b (n + 1) c = if 0 ≤ b (c + n) then shorts t b n c else shorts t b n c ++ [-plainT (cAt t (c + n)) (b (c + n))]
  | 0, c => rfl
  | n + 1, c => by
    rw [shorts, shorts_snoc t b n (c + 1), shorts, show c + 1 + n = c + (n + 1) from by omega]
    split <;> split <;> rfl
theorem shorts_len (t : List Cur) (b : Nat → Int) : ∀ n c, (shorts t b n c).length ≤ n
  | 0, c => Nat.le_refl _
  | n + 1, c => by
    have := shorts_len t b n (c + 1)
    rw [shorts]
    split
    · omega
    · rw [List.length_cons]; omega
theorem short_chain (t : List Cur) (b : Nat → Int) : ∀ n c s, (∀ i, i < n → sOk t b (c + i)) → shortF t b n c s = chainL s (shorts t b n c)
  | 0, c, s, _ => rfl
  | n + 1, c, s, h => by
    have h0 := h 0 (by omega)
    have hr : ∀ i, i < n → sOk t b (c + 1 + i) := fun i hi => by rw [show c + 1 + i = c + (i + 1) from by omega]; exact h (i + 1) (by omega)
    rw [Nat.add_zero] at h0
    rw [shortF, shorts]
    by_cases hb : 0 ≤ b c
    · rw [if_pos hb, if_pos hb]; exact short_chain t b n (c + 1) s hr
    · obtain ⟨p1, p2⟩ := h0.resolve_left hb
      rw [if_neg hb, if_neg hb, chain_step]
      by_cases h1 : In64 (s + -plainT (cAt t c) (b c))
      · rw [if_pos ⟨p1, p2, h1⟩, if_pos h1]; exact short_chain t b n (c + 1) _ hr
      · rw [if_neg (fun e => h1 e.2.2), if_neg h1]
theorem short_fail (t : List Cur) (b : Nat → Int) : ∀ n c s i, i < n → ¬ sOk t b (c + i) → shortF t b n c s = (0, 3)
  | 0, c, s, i, hi, _ => by omega
  | n + 1, c, s, 0, _, h => by
    rw [Nat.add_zero] at h
    rw [shortF, if_neg (fun e => h (.inl e)), if_neg (fun e => h (.inr ⟨e.1, e.2.1⟩))]
  | n + 1, c, s, i + 1, hi, h => by
    have hr : ¬ sOk t b (c + 1 + i) := by rw [show c + 1 + i = c + (i + 1) from by omega]; exact h
    rw [shortF]
    split
    · exact short_fail t b n (c + 1) _ i (by omega) hr
    · split
      · exact short_fail t b n (c + 1) _ i (by omega) hr
      · rfl
theorem worths_mem {t : List Cur} {b : Nat → Int} {x : Int} : ∀ {n c : Nat}, x ∈ worths t b n c → ∃ i, i < n ∧ x = worthT (cAt t (c + i)) (b (c + i))
  | 0, c, h => by cases h
  | n + 1, c, h => by
    rw [worths] at h
    rcases List.mem_cons.1 h with rfl | h
    · exact ⟨0, by omega, rfl⟩
    · obtain ⟨i, hi, e⟩ := worths_mem h
      exact ⟨i + 1, by omega, by rw [e, show c + 1 + i = c + (i + 1) from by omega]⟩
theorem shorts_mem {t : List Cur} {b : Nat → Int} {x : Int} : ∀ {n c : Nat}, x ∈ shorts t b n c → ∃ i, i < n ∧ ¬ 0 ≤ b (c + i) ∧ x = -plainT (cAt t (c + i)) (b (c + i))
  | 0, c, h => by cases h
  | n + 1, c, h => by
    rw [shorts] at h
    split at h
    · obtain ⟨i, hi, hb, e⟩ := shorts_mem h
      rw [show c + 1 + i = c + (i + 1) from by omega] at hb e
      exact ⟨i + 1, by omega, hb, e⟩
    · rename_i hb
      rcases List.mem_cons.1 h with rfl | h
      · exact ⟨0, by omega, hb, rfl⟩
      · obtain ⟨i, hi, hb, e⟩ := shorts_mem h
        rw [show c + 1 + i = c + (i + 1) from by omega] at hb e
        exact ⟨i + 1, by omega, hb, e⟩
/-- what a number of the way is, is an amount, and an error is one of two -/
theorem chain_in : ∀ (zs : List Int) (s : Int), In64 s → In64 (chainL s zs).1 ∧ ((chainL s zs).2 = 0 ∨ (chainL s zs).2 = 3)
  | [], s, h => ⟨h, .inl rfl⟩
  | z :: zs, s, h => by
    rw [chain_step]
    split
    · rename_i h1; exact chain_in zs _ h1
    · exact ⟨by decide, .inr rfl⟩
theorem net_in (t : List Cur) (b : Nat → Int) : ∀ n c s, In64 s → In64 (netF t b n c s).1 ∧ ((netF t b n c s).2 = 0 ∨ (netF t b n c s).2 = 3)
  | 0, c, s, h => ⟨h, .inl rfl⟩
  | n + 1, c, s, h => by
    rw [netF]
    split
    · rename_i h1; exact net_in t b n _ _ h1.2
    · exact ⟨by decide, .inr rfl⟩
theorem short_in (t : List Cur) (b : Nat → Int) : ∀ n c s, In64 s → In64 (shortF t b n c s).1 ∧ ((shortF t b n c s).2 = 0 ∨ (shortF t b n c s).2 = 3)
  | 0, c, s, h => ⟨h, .inl rfl⟩
  | n + 1, c, s, h => by
    rw [shortF]
    split
    · exact short_in t b n _ _ h
    · split
      · rename_i h1; exact short_in t b n _ _ h1.2.2
      · exact ⟨by decide, .inr rfl⟩
/-- what is plainly worth less than nothing -/
theorem plain_neg {c : Cur} {a : Int} (ho : oobB c = false) (h : ¬ 0 ≤ a) : plainT c a ≤ 0 := by
  obtain ⟨r0, _⟩ := oob_no ho
  have h2 : 0 ≤ (-a) * c.rate := Int.mul_nonneg (by omega) (by omega)
  have h1 : a * c.rate ≤ 0 := by rw [Int.neg_mul] at h2; omega
  unfold plainT muldiv
  simp only [Bool.false_eq_true, if_false]
  omega
theorem abs_neg {x : Int} (h : x ≤ 0) : absI x = -x := by unfold absI; split <;> omega
/-- both depend on the table's currencies and balances alone -/
theorem net_congr {t : List Cur} {b b' : Nat → Int} : ∀ n c s, (∀ i, c ≤ i → i < c + n → b i = b' i) → netF t b n c s = netF t b' n c s
  | 0, c, s, _ => rfl
  | n + 1, c, s, h => by
    rw [netF, netF, h c (by omega) (by omega)]
    split
    · exact net_congr n _ _ fun i hi hj => h i (by omega) (by omega)
    · rfl
theorem short_congr {t : List Cur} {b b' : Nat → Int} : ∀ n c s, (∀ i, c ≤ i → i < c + n → b i = b' i) → shortF t b n c s = shortF t b' n c s
  | 0, c, s, _ => rfl
  | n + 1, c, s, h => by
    have hr := fun s => short_congr (t := t) n (c + 1) s fun i hi hj => h i (by omega) (by omega)
    rw [shortF, shortF, h c (by omega) (by omega), hr, hr]
end Go.Proofs.Ytljclgphgojphaa
namespace Go.Proofs.Ytljclgphgojphaa
open Go.RowKit
set_option linter.unusedVariables false

def knownC (nc : Nat) (ps : List Pst) : Bool := ps.all fun q => decide (0 ≤ q.c ∧ q.c < nc)
/-- a member's postings, done to its balances -/
def goI (m : Int) : (Nat → Int) → List Pst → Option (Nat → Int)
  | b, [] => some b
  | b, q :: r => if q.m = m then (if In64 (b q.c.toNat + q.a) then goI m (upd b q.c.toNat (b q.c.toNat + q.a)) r else none) else goI m b r
def bothM (t : List Cur) (nc : Nat) (b : Nat → Int) : Int × Int × Int := if (netF t b nc 0 0).2 = 0 ∧ (shortF t b nc 0 0).2 = 0 then ((netF t b nc 0 0).1, (shortF t b nc 0 0).1, 0) else (0, 0, 3)
def ifM (t : List Cur) (nc : Nat) (b : Nat → Int) (m : Int) (ps : List Pst) : Int × Int × Int := if knownC nc ps then (match goI m b ps with | none => (0, 0, 3) | some d => bothM t nc d) else (0, 0, 1)
theorem goI_step {ps : List Pst} {k : Nat} {q : Pst} (hq : ps[k]? = some q) (m : Int) (d : Nat → Int) : goI m d (ps.drop k) = if q.m = m then (if In64 (d q.c.toNat + q.a) then goI m (upd d q.c.toNat (d q.c.toNat + q.a)) (ps.drop (k + 1)) else none) else goI m d (ps.drop (k + 1)) := by
  obtain ⟨hk, e⟩ := List.getElem?_eq_some_iff.1 hq
  rw [List.drop_eq_getElem_cons hk, e]
  rfl
def RetM (r : Int × Int × Int) (w : World) (e : Ending) (w' : World) : Prop := e = .returned (.tuple #[.int .i64 r.1, .int .i64 r.2.1, .int .i64 r.2.2]) ∧ Below w.heap.size w w'
theorem ifM_known {t : List Cur} {nc : Nat} {b d : Nat → Int} {m : Int} {ps : List Pst} (h : knownC nc ps = true) (hg : goI m b ps = some d) : ifM t nc b m ps = bothM t nc d := by unfold ifM; rw [if_pos h, hg]
theorem ifM_over {t : List Cur} {nc : Nat} {b : Nat → Int} {m : Int} {ps : List Pst} (h : knownC nc ps = true) (hg : goI m b ps = none) : ifM t nc b m ps = (0, 0, 3) := by unfold ifM; rw [if_pos h, hg]
theorem ifM_not {t : List Cur} {nc : Nat} {b : Nat → Int} {m : Int} {ps : List Pst} (h : knownC nc ps = false) : ifM t nc b m ps = (0, 0, 1) := by unfold ifM; rw [if_neg (by rw [h]; decide)]
theorem known_all {nc : Nat} {ps : List Pst} (h : knownC nc ps = true) : ∀ q ∈ ps, 0 ≤ q.c ∧ q.c < nc := fun q hq => by simpa using List.all_eq_true.1 h q hq
theorem known_yes {nc : Nat} {ps : List Pst} (h : ∀ q ∈ ps, 0 ≤ q.c ∧ q.c < nc) : knownC nc ps = true := List.all_eq_true.2 fun q hq => by simpa using h q hq
theorem known_no {nc : Nat} {ps : List Pst} {q : Pst} (hq : q ∈ ps) (h : ¬ (0 ≤ q.c ∧ q.c < nc)) : knownC nc ps = false := by
  cases e : knownC nc ps with
  | false => rfl
  | true => exact absurd (known_all e q hq) h
end Go.Proofs.Ytljclgphgojphaa
