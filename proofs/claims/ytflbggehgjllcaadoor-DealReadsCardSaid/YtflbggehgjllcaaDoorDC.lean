/- The contracts of mayStand, numbersOf, entryOf, ask. -/
import Derived.Test.YtflbggehgjllcaaDoorDB
namespace Go.Proofs.YtflbggehgjllcaaDoor
open Go.RowKit
set_option linter.unusedVariables false

/-- an entry's ten numbers -/
def En.nums (e : En) : Value := .agg #[.int .i64 e.d.id, .int .i64 e.d.a, .int .i64 e.d.b, .int .i64 e.d.sc, .int .i64 e.d.bc, .int .i64 e.d.s, .int .i64 e.d.t, .int .i64 e.st, .int .i64 e.ask, .int .i64 e.nth]
structure En.In (e : En) : Prop where
  d : e.d.In
  st : In64 e.st
  ask : In64 e.ask
  nth : In64 e.nth
theorem new_23 (w : World) (o o' o2 : Obj) : (((w.alloc o).alloc o').alloc o2).heap[w.heap.size + 1]? = some o' := by
  rw [Below.heap_alloc _ _ _ (by simp)]
  exact new_two w o o'
theorem wrap64 {x : Int} (h : In64 x) : IntKind.i64.wrap x = x := by unfold In64 at h; rw [IntKind.wrap_i64] <;> omega
set_option maxHeartbeats 1000000 in
set_option maxRecDepth 100000 in
theorem numbersOf_any (x : En) (w : World) : Calls Tryd.prog 31 #[x.val] w fun e w' => e = .returned x.nums ∧ Below w.heap.size w w' := by
  unfold En.val En.nums
  go_enter Tryd.func31, Tryd.ntmps31
  go_wp2_with fail
  refine bodyPost_ret (results_cell_row rfl _ _ (w.heap.size + 1) 67 _ (0, 0) _ rfl (new_23 w _ _ _) Tryd.underlying67 rfl (by kernel_rfl)) rfl ?_
  exact ⟨rfl, (((Below.refl _ _).alloc (Nat.le_refl _) _).alloc (by simp) _).alloc (by simp; omega) _⟩
set_option maxHeartbeats 1000000 in
set_option maxRecDepth 100000 in
theorem entryOf_any (x : En) (w : World) : Calls Tryd.prog 56 #[x.nums] w fun e w' => e = .returned x.val ∧ Below w.heap.size w w' := by
  unfold En.val En.nums
  go_enter Tryd.func56, Tryd.ntmps56
  go_wp2_with fail
  refine bodyPost_ret (results_cell_row rfl _ _ (w.heap.size + 1) 65 _ (0, 0) _ rfl (new_two w _ _) Tryd.underlying65 rfl (by kernel_rfl)) rfl ?_
  exact ⟨rfl, ((Below.refl _ _).alloc (Nat.le_refl _) _).alloc (by simp) _⟩
set_option maxHeartbeats 1000000 in
set_option maxRecDepth 100000 in
theorem mayStand_any (x : En) (w : World) : Calls Tryd.prog 57 #[x.val] w fun e w' => e = .returned (.bool x.may) ∧ Below w.heap.size w w' := by
  have em : x.may = (if x.st = 1 then !decide (0 < x.nth) && decide (x.ask = 0) else if x.st = 2 ∨ x.st = 3 then decide (0 < x.nth) && decide (x.ask < 3) else if x.st = 4 then decide (x.ask = 0) || (decide (0 < x.nth) && decide (x.ask ≤ 3)) else false) := rfl
  have d0 : decide (x.ask = 0) = (x.ask == 0) := by rw [Bool.eq_iff_iff]; simp
  rw [d0] at em
  clear d0
  unfold En.val
  by_cases s1 : x.st = 1
  · have q1 : (x.st == 1) = true := by simpa using s1
    rw [if_pos s1] at em
    by_cases n1 : 0 < x.nth
    · have r1 : decide (0 < x.nth) = true := decide_eq_true n1
      rcases r2 : (x.ask == 0) with _ | _
      · rcases r3 : decide (x.ask < 3) with _ | _ <;> rcases r4 : decide (x.ask ≤ 3) with _ | _
        all_goals
          rw [em]
          clear em
          go_enter Tryd.func57, Tryd.ntmps57
          go_wp2
          go_ret
          exact ⟨by simp [*], (Below.refl _ _).alloc (Nat.le_refl _) _⟩
      · rcases r3 : decide (x.ask < 3) with _ | _ <;> rcases r4 : decide (x.ask ≤ 3) with _ | _
        all_goals
          rw [em]
          clear em
          go_enter Tryd.func57, Tryd.ntmps57
          go_wp2
          go_ret
          exact ⟨by simp [*], (Below.refl _ _).alloc (Nat.le_refl _) _⟩
    · have r1 : decide (0 < x.nth) = false := decide_eq_false n1
      rcases r2 : (x.ask == 0) with _ | _
      · rcases r3 : decide (x.ask < 3) with _ | _ <;> rcases r4 : decide (x.ask ≤ 3) with _ | _
        all_goals
          rw [em]
          clear em
          go_enter Tryd.func57, Tryd.ntmps57
          go_wp2
          go_ret
          exact ⟨by simp [*], (Below.refl _ _).alloc (Nat.le_refl _) _⟩
      · rcases r3 : decide (x.ask < 3) with _ | _ <;> rcases r4 : decide (x.ask ≤ 3) with _ | _
        all_goals
          rw [em]
          clear em
          go_enter Tryd.func57, Tryd.ntmps57
          go_wp2
          go_ret
          exact ⟨by simp [*], (Below.refl _ _).alloc (Nat.le_refl _) _⟩
  · have q1 : (x.st == 1) = false := by simpa using s1
    rw [if_neg s1] at em
    by_cases s2 : x.st = 2
    · have q2 : (x.st == 2) = true := by simpa using s2
      rw [if_pos (.inl s2)] at em
      by_cases n1 : 0 < x.nth
      · have r1 : decide (0 < x.nth) = true := decide_eq_true n1
        rcases r2 : (x.ask == 0) with _ | _
        · rcases r3 : decide (x.ask < 3) with _ | _ <;> rcases r4 : decide (x.ask ≤ 3) with _ | _
          all_goals
            rw [em]
            clear em
            go_enter Tryd.func57, Tryd.ntmps57
            go_wp2
            go_ret
            exact ⟨by simp [*], (Below.refl _ _).alloc (Nat.le_refl _) _⟩
        · rcases r3 : decide (x.ask < 3) with _ | _ <;> rcases r4 : decide (x.ask ≤ 3) with _ | _
          all_goals
            rw [em]
            clear em
            go_enter Tryd.func57, Tryd.ntmps57
            go_wp2
            go_ret
            exact ⟨by simp [*], (Below.refl _ _).alloc (Nat.le_refl _) _⟩
      · have r1 : decide (0 < x.nth) = false := decide_eq_false n1
        rcases r2 : (x.ask == 0) with _ | _
        · rcases r3 : decide (x.ask < 3) with _ | _ <;> rcases r4 : decide (x.ask ≤ 3) with _ | _
          all_goals
            rw [em]
            clear em
            go_enter Tryd.func57, Tryd.ntmps57
            go_wp2
            go_ret
            exact ⟨by simp [*], (Below.refl _ _).alloc (Nat.le_refl _) _⟩
        · rcases r3 : decide (x.ask < 3) with _ | _ <;> rcases r4 : decide (x.ask ≤ 3) with _ | _
          all_goals
            rw [em]
            clear em
            go_enter Tryd.func57, Tryd.ntmps57
            go_wp2
            go_ret
            exact ⟨by simp [*], (Below.refl _ _).alloc (Nat.le_refl _) _⟩
    · have q2 : (x.st == 2) = false := by simpa using s2
      by_cases s3 : x.st = 3
      · have q3 : (x.st == 3) = true := by simpa using s3
        rw [if_pos (.inr s3)] at em
        by_cases n1 : 0 < x.nth
        · have r1 : decide (0 < x.nth) = true := decide_eq_true n1
          rcases r2 : (x.ask == 0) with _ | _
          · rcases r3 : decide (x.ask < 3) with _ | _ <;> rcases r4 : decide (x.ask ≤ 3) with _ | _
            all_goals
              rw [em]
              clear em
              go_enter Tryd.func57, Tryd.ntmps57
              go_wp2
              go_ret
              exact ⟨by simp [*], (Below.refl _ _).alloc (Nat.le_refl _) _⟩
          · rcases r3 : decide (x.ask < 3) with _ | _ <;> rcases r4 : decide (x.ask ≤ 3) with _ | _
            all_goals
              rw [em]
              clear em
              go_enter Tryd.func57, Tryd.ntmps57
              go_wp2
              go_ret
              exact ⟨by simp [*], (Below.refl _ _).alloc (Nat.le_refl _) _⟩
        · have r1 : decide (0 < x.nth) = false := decide_eq_false n1
          rcases r2 : (x.ask == 0) with _ | _
          · rcases r3 : decide (x.ask < 3) with _ | _ <;> rcases r4 : decide (x.ask ≤ 3) with _ | _
            all_goals
              rw [em]
              clear em
              go_enter Tryd.func57, Tryd.ntmps57
              go_wp2
              go_ret
              exact ⟨by simp [*], (Below.refl _ _).alloc (Nat.le_refl _) _⟩
          · rcases r3 : decide (x.ask < 3) with _ | _ <;> rcases r4 : decide (x.ask ≤ 3) with _ | _
            all_goals
              rw [em]
              clear em
              go_enter Tryd.func57, Tryd.ntmps57
              go_wp2
              go_ret
              exact ⟨by simp [*], (Below.refl _ _).alloc (Nat.le_refl _) _⟩
      · have q3 : (x.st == 3) = false := by simpa using s3
        rw [if_neg (by simp [s2, s3])] at em
        by_cases s4 : x.st = 4
        · have q4 : (x.st == 4) = true := by simpa using s4
          rw [if_pos s4] at em
          by_cases n1 : 0 < x.nth
          · have r1 : decide (0 < x.nth) = true := decide_eq_true n1
            rcases r2 : (x.ask == 0) with _ | _
            · rcases r3 : decide (x.ask < 3) with _ | _ <;> rcases r4 : decide (x.ask ≤ 3) with _ | _
              all_goals
                rw [em]
                clear em
                go_enter Tryd.func57, Tryd.ntmps57
                go_wp2
                go_ret
                exact ⟨by simp [*], (Below.refl _ _).alloc (Nat.le_refl _) _⟩
            · rcases r3 : decide (x.ask < 3) with _ | _ <;> rcases r4 : decide (x.ask ≤ 3) with _ | _
              all_goals
                rw [em]
                clear em
                go_enter Tryd.func57, Tryd.ntmps57
                go_wp2
                go_ret
                exact ⟨by simp [*], (Below.refl _ _).alloc (Nat.le_refl _) _⟩
          · have r1 : decide (0 < x.nth) = false := decide_eq_false n1
            rcases r2 : (x.ask == 0) with _ | _
            · rcases r3 : decide (x.ask < 3) with _ | _ <;> rcases r4 : decide (x.ask ≤ 3) with _ | _
              all_goals
                rw [em]
                clear em
                go_enter Tryd.func57, Tryd.ntmps57
                go_wp2
                go_ret
                exact ⟨by simp [*], (Below.refl _ _).alloc (Nat.le_refl _) _⟩
            · rcases r3 : decide (x.ask < 3) with _ | _ <;> rcases r4 : decide (x.ask ≤ 3) with _ | _
              all_goals
                rw [em]
                clear em
                go_enter Tryd.func57, Tryd.ntmps57
                go_wp2
                go_ret
                exact ⟨by simp [*], (Below.refl _ _).alloc (Nat.le_refl _) _⟩
        · have q4 : (x.st == 4) = false := by simpa using s4
          rw [if_neg s4] at em
          rw [em]
          clear em
          go_enter Tryd.func57, Tryd.ntmps57
          go_wp2
          go_ret
          exact ⟨by simp [*], (Below.refl _ _).alloc (Nat.le_refl _) _⟩
end Go.Proofs.YtflbggehgjllcaaDoor
