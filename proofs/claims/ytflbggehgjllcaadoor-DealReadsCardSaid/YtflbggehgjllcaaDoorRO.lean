/- The contract of the reference's Submit. -/
import Derived.Test.YtflbggehgjllcaaDoorRN
import Derived.Test.YtflbggehgjllcaaDoorRK
namespace Go.Proofs.YtflbggehgjllcaaDoor
open Go.RowKit
set_option linter.unusedVariables false
section
variable {P : Nat → Prop} {w : World} {rb : Nat} {b : Bk} {v : Value}
theorem rsub_any (h : RB P w rb b) (d : Dl) (hlen : b.l.length ≤ 200) (hmany : b.many ≤ 1000) (hf : ∀ j, w.heap.size ≤ j → P j) :
    Calls Tryd.prog 24 #[.pointer (some ⟨rb, 0, none⟩), d.val] w fun e w' => e = .returned (.tuple #[.bool (b.sub d).1.1, .int .i64 (b.sub d).1.2]) ∧ RB P w' rb (b.sub d).2 ∧ Kp P w w' := by
  rcases hm : mayB d b.mem b.cur with _ | _
  · exact (rsub_arg h d hm).mono fun e w' ⟨h1, h2, h3⟩ => ⟨h1, h2, Kp.of_below h3⟩
  · rcases ha : atL b.l d.id with _ | i
    · by_cases h2 : 200 ≤ b.l.length
      · exact (rsub_many h d hm ha h2 (by omega)).mono fun e w' ⟨h1, h2, h3⟩ => ⟨h1, h2, Kp.of_below h3⟩
      · have e : b.sub d = ((false, 0), { b with l := b.l ++ [⟨d, 1, 0, 0⟩] }) := by unfold Bk.sub; rw [if_neg (by rw [hm]; simp), ha]; dsimp only; rw [if_neg h2]
        rw [e]; exact rsub_new h d hm ha (by omega) (by omega) hf
    · obtain ⟨hi, -⟩ := atL_some ha
      have e0 : b.sub d = if (b.l.getD i default).st ≠ 1 ∨ (b.l.getD i default).d.a = d.a then ((false, 6), b) else if d ≠ (b.l.getD i default).d.mir then ((false, 12), b) else ((true, 0), { b with l := b.l.set i { b.l.getD i default with st := 2, nth := (b.many : Int) + 1 }, many := b.many + 1 }) := by
        unfold Bk.sub; rw [if_neg (by rw [hm]; simp), ha]
      by_cases ht : (b.l.getD i default).st ≠ 1 ∨ (b.l.getD i default).d.a = d.a
      · rw [if_pos ht] at e0
        exact (rsub_no h d hm ha (by omega) (by rw [e0]; exact ⟨rfl, .inl rfl⟩)).mono fun e w' ⟨h1, h2, h3⟩ => ⟨h1, h2, Kp.of_below h3⟩
      · rw [if_neg ht] at e0
        by_cases hu : d ≠ (b.l.getD i default).d.mir
        · rw [if_pos hu] at e0
          exact (rsub_no h d hm ha (by omega) (by rw [e0]; exact ⟨rfl, .inr rfl⟩)).mono fun e w' ⟨h1, h2, h3⟩ => ⟨h1, h2, Kp.of_below h3⟩
        · rw [if_neg hu] at e0
          rw [e0]
          have hg : b.l[i]? = some (b.l.getD i default) := by rw [getD_at hi, List.getElem?_eq_getElem hi]
          refine rsub_yes h d hm ha (by omega) hmany hf ?_ ?_ ?_
          · rw [hg]; simp only [Option.map_some, Option.some.injEq]; omega
          · rw [hg]; simp only [Option.map_some, Option.some.injEq]; exact (Decidable.not_not.1 hu).symm
          · rw [hg]; simp only [Option.map_some, ne_eq, Option.some.injEq]; exact fun e => ht (.inr e)
end
end Go.Proofs.YtflbggehgjllcaaDoor
