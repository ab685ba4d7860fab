/- Those that are matched, one by one in the order in which they were: the lowest first. No Go text. -/
import Derived.Test.YtflbggehgjllcaaDoorDV
namespace Go.Proofs.YtflbggehgjllcaaDoor
set_option linter.unusedVariables false

def isN (n : Nat) (e : En) : Bool := decide (e.nth = (n : Int) + 1) && decide (e.st = 2)
/-- those that were matched as one of the first n -/
def ordN (l : List En) : Nat → List En
  | 0 => []
  | n + 1 => ordN l n ++ l.filter (isN n)
def uptoN (n : Nat) (e : En) : Bool := decide (0 < e.nth) && decide (e.nth ≤ (n : Int)) && decide (e.st = 2)
theorem part_perm {α : Type} (p q r : α → Bool) (h : ∀ a, r a = (p a || q a)) (hd : ∀ a, ¬ (p a = true ∧ q a = true)) : ∀ l : List α, (l.filter r).Perm (l.filter p ++ l.filter q)
  | [] => by simp
  | x :: l => by
    have ih := part_perm p q r h hd l
    have hx := hd x
    cases hp : p x with
    | true =>
      have hq : q x = false := by cases hq : q x with | false => rfl | true => exact absurd ⟨hp, hq⟩ hx
      rw [List.filter_cons_of_pos (by rw [h, hp]; rfl), List.filter_cons_of_pos hp, List.filter_cons_of_neg (by rw [hq]; simp)]
      exact ih.cons x
    | false =>
      cases hq : q x with
      | true =>
        rw [List.filter_cons_of_pos (by rw [h, hp, hq]; rfl), List.filter_cons_of_neg (by rw [hp]; simp), List.filter_cons_of_pos hq]
        exact (ih.cons x).trans List.perm_middle.symm
      | false =>
        rw [List.filter_cons_of_neg (by rw [h, hp, hq]; simp), List.filter_cons_of_neg (by rw [hp]; simp), List.filter_cons_of_neg (by rw [hq]; simp)]
        exact ih
theorem ordN_perm (l : List En) : ∀ n, (ordN l n).Perm (l.filter (uptoN n))
  | 0 => by
    have e : l.filter (uptoN 0) = [] := List.filter_eq_nil_iff.2 fun a _ => by unfold uptoN; simp; omega
    rw [e]; exact List.Perm.refl _
  | n + 1 => by
    refine ((ordN_perm l n).append_right _).trans (part_perm _ _ _ (fun a => ?_) (fun a h => ?_) l).symm
    · unfold uptoN isN
      rw [Bool.eq_iff_iff]
      simp
      omega
    · unfold uptoN isN at h
      simp at h
      omega
theorem ordN_sorted (l : List En) : ∀ n, (ordN l n).Pairwise fun a b => a.nth ≤ b.nth
  | 0 => List.Pairwise.nil
  | n + 1 => by
    unfold ordN
    rw [List.pairwise_append]
    refine ⟨ordN_sorted l n, ?_, fun a ha c hc => ?_⟩
    · rw [List.pairwise_iff_forall_sublist]
      intro a c hs
      have h1 := List.mem_filter.1 (hs.subset (List.mem_cons_self))
      have h2 := List.mem_filter.1 (hs.subset (List.mem_cons_of_mem _ List.mem_cons_self))
      have e1 := h1.2
      have e2 := h2.2
      unfold isN at e1 e2
      simp at e1 e2
      omega
    · have h1 := List.mem_filter.1 ((ordN_perm l n).mem_iff.1 ha)
      have h2 := List.mem_filter.1 hc
      have e1 := h1.2
      have e2 := h2.2
      unfold uptoN at e1
      unfold isN at e2
      simp at e1 e2
      omega
theorem nth_inj {l : List En} (h : (l.map (·.nth)).Nodup) {a c : En} (ha : a ∈ l) (hc : c ∈ l) (e : a.nth = c.nth) : a = c := by
  induction l with
  | nil => cases ha
  | cons x r ih =>
    rw [List.map_cons, List.nodup_cons] at h
    rcases List.mem_cons.1 ha with ea | ha2
    · rcases List.mem_cons.1 hc with ec | hc2
      · exact ea.trans ec.symm
      · exact absurd (show x.nth ∈ r.map (·.nth) from List.mem_map.2 ⟨c, hc2, by rw [← e, ea]⟩) h.1
    · rcases List.mem_cons.1 hc with ec | hc2
      · exact absurd (show x.nth ∈ r.map (·.nth) from List.mem_map.2 ⟨a, ha2, by rw [e, ec]⟩) h.1
      · exact ih h.2 ha2 hc2
theorem ordN_all {b : Bk} (h : b.Ok) : ordN b.l b.many = lowest (b.l.filter fun e => decide (e.st = 2)) := by
  have hp : (ordN b.l b.many).Perm (b.l.filter fun e => decide (e.st = 2)) := by
    have e : b.l.filter (uptoN b.many) = b.l.filter fun e => decide (e.st = 2) := List.filter_congr fun x hx => by
      have hg := h.may x hx
      unfold uptoN
      by_cases hs : x.st = 2
      · have h1 := (En.may_2 hg.2.2.1 (.inl hs)).1
        have h2 := hg.2.2.2.2.2
        simp [hs, h1, h2]
      · simp [hs]
    rw [← e]; exact ordN_perm _ _
  have hq : (lowest (b.l.filter fun e => decide (e.st = 2))).Perm (b.l.filter fun e => decide (e.st = 2)) := by unfold lowest; exact List.mergeSort_perm _ _
  refine List.Perm.eq_of_pairwise (le := fun a b : En => a.nth ≤ b.nth) (fun a c ha hc h1 h2 => nth_inj h.nodup2 (hp.mem_iff.1 ha) (hq.mem_iff.1 hc) (by omega)) (ordN_sorted _ _) ?_ (hp.trans hq.symm)
  unfold lowest
  have := List.pairwise_mergeSort (le := fun x y : En => decide (x.nth ≤ y.nth)) (fun a b c h1 h2 => by simp at *; omega) (fun a b => by simp; omega) (b.l.filter fun e => decide (e.st = 2))
  exact this.imp fun h => by simpa using h
end Go.Proofs.YtflbggehgjllcaaDoor
