/- What is behind a cycle; which errors there are: plainly. -/
import Derived.Test.YtiehbbhjpcnbnaaGreatSL
namespace Go.Proofs.YtiehbbhjpcnbnaaGreat
open Go.RowKit
set_option linter.unusedVariables false

theorem passL_nil : ∀ {ids : List Int} {s : ST}, s.Ok → (passL s ids).1 = [] → (passL s ids).2 = s ∧ ∀ id ∈ ids, (tryS s id).1 ≠ 0
  | [], s, _, _ => ⟨rfl, fun id hid => by simp at hid⟩
  | x :: r, s, h, hn => by
    unfold passL at hn ⊢
    split at hn
    · simp at hn
    · rename_i hx
      rw [if_neg hx]
      have e := try_err h hx
      rw [e] at hn ⊢
      obtain ⟨h1, h2⟩ := passL_nil h hn
      refine ⟨h1, fun id hid => ?_⟩
      rcases List.mem_cons.1 hid with rfl | hid
      · exact hx
      · exact h2 id hid
theorem cyc_end : ∀ (n : Nat) {s : ST}, s.Ok → s.many ≤ n → (cycS s).2.2.Ok ∧ (passS (cycS s).2.2).1 = []
  | n, s, h, hm => by
    rw [cyc_step h]
    by_cases he : (passS s).1 = []
    · rw [if_pos he]
      have e : (passS s).2 = s := (passL_nil h he).1
      show (passS s).2.Ok ∧ (passS (passS s).2).1 = []
      rw [e]
      exact ⟨h, he⟩
    · rw [if_neg he]
      have hl : 0 < (passS s).1.length := by
        cases e : (passS s).1 with
        | nil => exact absurd e he
        | cons _ _ => simp
      have h2 := pass_cnt h
      cases n with
      | zero => omega
      | succ n => exact cyc_end n (pass_ok h) (by omega)
/-- behind a cycle none can be settled -/
theorem cyc_twice {s : ST} (h : s.Ok) : (cycS s).2.2.Ok ∧ cycS (cycS s).2.2 = ([], 1, (cycS s).2.2) ∧ ∀ id ∈ (cycS s).2.2.b.all 2, (tryS (cycS s).2.2 id).1 ≠ 0 := by
  obtain ⟨h1, h2⟩ := cyc_end s.many h (Nat.le_refl _)
  generalize (cycS s).2.2 = s1 at *
  obtain ⟨h3, h4⟩ := passL_nil h1 h2
  refine ⟨h1, ?_, h4⟩
  rw [cyc_step h1, if_pos h2]
  have e : (passS s1).2 = s1 := h3
  rw [e]
theorem legs_known {l : LM} {d : Dd.Dl} (h : Dd.mayB d l.nm l.nc = true) : l.known (legs d) = true := by
  have := Dd.mayB_iff.1 h
  unfold LM.known legs
  simp only [List.all_cons, List.all_nil, Bool.and_true, Bool.and_eq_true, LM.has_iff]
  omega
theorem legs_even (l : LM) (d : Dd.Dl) : l.even (legs d) = true := by
  rw [even_iff]
  intro c _
  unfold legs
  simp only [sumC]
  by_cases h1 : d.sc = (c : Int) <;> by_cases h2 : d.bc = (c : Int) <;> simp [h1, h2] <;> omega
theorem post_legs {l : LM} {d : Dd.Dl} (h : Dd.mayB d l.nm l.nc = true) : (l.post (legs d)).1 = 0 ∨ (l.post (legs d)).1 = 3 := by
  unfold LM.post
  rw [if_pos (legs_known h), if_pos (legs_even l d)]
  split
  · exact .inl rfl
  · exact .inr rfl
theorem book_legs {g : GM} {d : Dd.Dl} (h : Dd.mayB d g.l.nm g.l.nc = true) : (g.book (legs d)).1 = 0 ∨ (g.book (legs d)).1 = 3 ∨ (g.book (legs d)).1 = 10 := by
  have hp := post_legs h
  unfold GM.book
  split
  · dsimp only
    split
    · rename_i hx
      rcases hp with hp | hp
      · exact absurd hp hx
      · exact .inr (.inl hp)
    · exact .inr (.inr rfl)
  · rcases hp with hp | hp
    · exact .inl hp
    · exact .inr (.inl hp)
theorem at_all {b : Dd.Bk} (h : b.Ok) {st id : Int} (hid : id ∈ b.all st) : ∃ i, ∃ hi : i < b.l.length, Dd.atL b.l id = some i ∧ b.l[i].d.id = id ∧ b.l[i].st = st := by
  obtain ⟨e, he, rfl, hst⟩ := mem_all hid
  obtain ⟨i, hi, rfl⟩ := List.getElem_of_mem he
  exact ⟨i, hi, Dd.atL_get hi h.ids, rfl, hst⟩
theorem state_all {b : Dd.Bk} (h : b.Ok) {st id : Int} (hid : id ∈ b.all st) : b.state id = st ∧ (b.deal id).2 = true := by
  obtain ⟨i, hi, h1, _, h2⟩ := at_all h hid
  unfold Dd.Bk.state Dd.Bk.deal
  rw [h1]
  dsimp only
  rw [Dd.getD_is hi]
  exact ⟨h2, rfl⟩
theorem try_class {s : ST} (h : s.Ok) {id : Int} (hid : id ∈ s.b.all 2) : (tryS s id).1 = 0 ∨ (tryS s id).1 = 3 ∨ (tryS s id).1 = 10 := by
  obtain ⟨h1, h2⟩ := state_all h.b hid
  have hm := (deal_may h h2).1
  rw [h.nm, h.nc] at hm
  have hb := book_legs hm
  unfold tryS
  rw [if_neg (by rw [h2]; decide), if_neg (by simpa using h1)]
  split
  · exact hb
  · left
    show (s.b.set id).1 = 0
    obtain ⟨i, hi, ha, _, hst⟩ := at_all h.b hid
    unfold Dd.Bk.set
    rw [ha]
    dsimp only
    rw [Dd.getD_is hi, if_neg (by simpa using hst)]
end Go.Proofs.YtiehbbhjpcnbnaaGreat
