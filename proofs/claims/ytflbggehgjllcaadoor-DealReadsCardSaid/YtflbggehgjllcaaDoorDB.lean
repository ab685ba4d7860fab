/- Entries as values; the contracts of two, mayBe, mirror, side, open, mayStand, textSize. -/
import Derived.Test.YtflbggehgjllcaaDoorDA
namespace Go.Proofs.YtflbggehgjllcaaDoor
open Go.RowKit
set_option linter.unusedVariables false

theorem new_two (w : World) (o o' : Obj) : ((w.alloc o).alloc o').heap[w.heap.size + 1]? = some o' := by
  have := heap_alloc_new (w.alloc o) o'
  simpa using this
def iv (x : Int) : Value := .int .i64 x
def Dl.val (d : Dl) : Value := .agg #[.int .i64 d.id, .int .i64 d.a, .int .i64 d.b, .int .i64 d.sc, .int .i64 d.bc, .int .i64 d.s, .int .i64 d.t]
def En.val (e : En) : Value := .agg #[.int .i64 e.d.id, .int .i64 e.d.a, .int .i64 e.d.b, .int .i64 e.d.sc, .int .i64 e.d.bc, .int .i64 e.d.s, .int .i64 e.d.t, .int .i64 e.st, .int .i64 e.ask, .int .i64 e.nth]
def En.cs (e : En) : List Value := [.int .i64 e.d.id, .int .i64 e.d.a, .int .i64 e.d.b, .int .i64 e.d.sc, .int .i64 e.d.bc, .int .i64 e.d.s, .int .i64 e.d.t, .int .i64 e.st, .int .i64 e.ask, .int .i64 e.nth]
theorem En.cs_len (e : En) : e.cs.length = 10 := rfl
theorem En.cs_one (e : En) : ∀ u ∈ e.cs, u.oneCell' = true := by
  intro u hu; unfold En.cs at hu; simp at hu; rcases hu with rfl | rfl | rfl | rfl | rfl | rfl | rfl | rfl | rfl | rfl <;> rfl
def cellsE (l : List En) : List Value := l.flatMap En.cs
theorem cellsE_len (l : List En) : (cellsE l).length = l.length * 10 := by
  unfold cellsE
  induction l with
  | nil => rfl
  | cons x l ih => rw [List.flatMap_cons, List.length_append, ih, En.cs_len]; simp; omega
theorem cellsE_app (l : List En) (e : En) : cellsE (l ++ [e]) = cellsE l ++ e.cs := by unfold cellsE; simp
theorem cellsE_cons (e : En) (l : List En) : cellsE (e :: l) = e.cs ++ cellsE l := by unfold cellsE; simp
theorem cellsE_at : ∀ {l : List En} {i : Nat} (h : i < l.length) (j : Nat), j < 10 → (cellsE l)[i * 10 + j]? = l[i].cs[j]?
  | [], i, h, j, _ => by simp at h
  | x :: r, 0, h, j, hj => by rw [cellsE_cons, Nat.zero_mul, Nat.zero_add, List.getElem?_append_left (by rw [En.cs_len]; exact hj)]; rfl
  | x :: r, i + 1, h, j, hj => by
    rw [cellsE_cons, List.getElem?_append_right (by rw [En.cs_len]; omega), En.cs_len]
    have e : (i + 1) * 10 + j - 10 = i * 10 + j := by omega
    rw [e, cellsE_at (by simpa using h) j hj]; rfl
/-- one cell of one entry is another one -/
theorem cellsE_set : ∀ {l : List En} {i : Nat} (h : i < l.length) (j : Nat) (u : Value) (e : En), j < 10 → l[i].cs.set j u = e.cs → (cellsE l).set (i * 10 + j) u = cellsE (l.set i e)
  | [], i, h, j, u, e, _, _ => by simp at h
  | x :: r, 0, h, j, u, e, hj, he => by
    have he' : x.cs.set j u = e.cs := he
    rw [cellsE_cons, Nat.zero_mul, Nat.zero_add, List.set_append_left _ _ (by rw [En.cs_len]; exact hj), he', List.set_cons_zero, cellsE_cons]
  | x :: r, i + 1, h, j, u, e, hj, he => by
    rw [cellsE_cons, List.set_append_right _ _ (by rw [En.cs_len]; omega), En.cs_len]
    have e2 : (i + 1) * 10 + j - 10 = i * 10 + j := by omega
    rw [e2, cellsE_set (by simpa using h) j u e hj (by simpa using he), List.set_cons_succ, cellsE_cons]

set_option maxHeartbeats 1000000 in
set_option maxRecDepth 100000 in
theorem two_any (x y n : Int) (w : World) : Calls Tryd.prog 59 #[.int .i64 x, .int .i64 y, .int .i64 n] w fun e w' => e = .returned (.bool (twoB x y n)) ∧ w = w' := by
  by_cases a1 : 0 ≤ x <;> by_cases a2 : x < n <;> by_cases a3 : 0 ≤ y <;> by_cases a4 : y < n <;> by_cases a5 : x = y
  all_goals
    go_enter Tryd.func59, Tryd.ntmps59
    go_wp2
    go_ret
    exact ⟨by simp [twoB, a1, a2, a3, a4, a5], rfl⟩
theorem textSize_any (n : Nat) (w : World) (hn : n ≤ 1000000) : Calls Tryd.prog 30 #[.int .i64 (n : Int)] w fun e w' => e = .returned (.int .i64 (2 + n * 28 : Nat)) ∧ w = w' := by
  have hz : (0 : Int) ≤ (n : Int) := by omega
  have hzz : (n : Int) ≤ 1000000 := by omega
  go_enter Tryd.func30, Tryd.ntmps30
  go_wp2
  go_ret
  exact ⟨by congr 2, rfl⟩

set_option maxHeartbeats 1000000 in
set_option maxRecDepth 100000 in
theorem mayBe_any (d : Dl) (mem cur : Int) (w : World) : Calls Tryd.prog 45 #[d.val, .int .i64 mem, .int .i64 cur] w fun e w' => e = .returned (.bool (mayB d mem cur)) ∧ Below w.heap.size w w' := by
  have c1 := two_any d.a d.b mem
  have c2 := two_any d.sc d.bc cur
  have em : mayB d mem cur = (decide (1 ≤ d.id) && decide (d.id ≤ 2147483647) && twoB d.a d.b mem && twoB d.sc d.bc cur && decide (1 ≤ d.s) && decide (1 ≤ d.t)) := rfl
  unfold Dl.val
  by_cases a1 : 1 ≤ d.id
  · have q0 : decide (1 ≤ d.id) = true := decide_eq_true a1
    rw [q0] at em
    by_cases a2 : d.id ≤ 2147483647
    · have q1 : decide (d.id ≤ 2147483647) = true := decide_eq_true a2
      rw [q1] at em
      rcases q2 : twoB d.a d.b mem with _ | _
      · rw [q2] at em c1
        clear q2
        replace em : mayB d mem cur = false := em
        rw [em]
        clear em
        go_enter Tryd.func45, Tryd.ntmps45
        go_wp2_with (go_at_call 59; first | ((with_reducible refine (c1 _).mono ?_); rintro e w' ⟨rfl, rfl⟩) | ((with_reducible refine (c2 _).mono ?_); rintro e w' ⟨rfl, rfl⟩))
        go_ret
        exact ⟨by simp [*], (Below.refl _ _).alloc (Nat.le_refl _) _⟩
      · rw [q2] at em c1
        clear q2
        rcases q3 : twoB d.sc d.bc cur with _ | _
        · rw [q3] at em c2
          clear q3
          replace em : mayB d mem cur = false := em
          rw [em]
          clear em
          go_enter Tryd.func45, Tryd.ntmps45
          go_wp2_with (go_at_call 59; first | ((with_reducible refine (c1 _).mono ?_); rintro e w' ⟨rfl, rfl⟩) | ((with_reducible refine (c2 _).mono ?_); rintro e w' ⟨rfl, rfl⟩))
          go_ret
          exact ⟨by simp [*], (Below.refl _ _).alloc (Nat.le_refl _) _⟩
        · rw [q3] at em c2
          clear q3
          by_cases a5 : 1 ≤ d.s
          · have q4 : decide (1 ≤ d.s) = true := decide_eq_true a5
            rw [q4] at em
            by_cases a6 : 1 ≤ d.t
            · have q5 : decide (1 ≤ d.t) = true := decide_eq_true a6
              rw [q5] at em
              replace em : mayB d mem cur = true := em
              rw [em]
              clear em
              go_enter Tryd.func45, Tryd.ntmps45
              go_wp2_with (go_at_call 59; first | ((with_reducible refine (c1 _).mono ?_); rintro e w' ⟨rfl, rfl⟩) | ((with_reducible refine (c2 _).mono ?_); rintro e w' ⟨rfl, rfl⟩))
              go_ret
              exact ⟨by simp [*], (Below.refl _ _).alloc (Nat.le_refl _) _⟩
            · have q5 : decide (1 ≤ d.t) = false := decide_eq_false a6
              rw [q5] at em
              replace em : mayB d mem cur = false := em
              rw [em]
              clear em
              go_enter Tryd.func45, Tryd.ntmps45
              go_wp2_with (go_at_call 59; first | ((with_reducible refine (c1 _).mono ?_); rintro e w' ⟨rfl, rfl⟩) | ((with_reducible refine (c2 _).mono ?_); rintro e w' ⟨rfl, rfl⟩))
              go_ret
              exact ⟨by simp [*], (Below.refl _ _).alloc (Nat.le_refl _) _⟩
          · have q4 : decide (1 ≤ d.s) = false := decide_eq_false a5
            rw [q4] at em
            replace em : mayB d mem cur = false := em
            rw [em]
            clear em
            go_enter Tryd.func45, Tryd.ntmps45
            go_wp2_with (go_at_call 59; first | ((with_reducible refine (c1 _).mono ?_); rintro e w' ⟨rfl, rfl⟩) | ((with_reducible refine (c2 _).mono ?_); rintro e w' ⟨rfl, rfl⟩))
            go_ret
            exact ⟨by simp [*], (Below.refl _ _).alloc (Nat.le_refl _) _⟩
    · have q1 : decide (d.id ≤ 2147483647) = false := decide_eq_false a2
      rw [q1] at em
      replace em : mayB d mem cur = false := em
      rw [em]
      clear em
      go_enter Tryd.func45, Tryd.ntmps45
      go_wp2_with (go_at_call 59; first | ((with_reducible refine (c1 _).mono ?_); rintro e w' ⟨rfl, rfl⟩) | ((with_reducible refine (c2 _).mono ?_); rintro e w' ⟨rfl, rfl⟩))
      go_ret
      exact ⟨by simp [*], (Below.refl _ _).alloc (Nat.le_refl _) _⟩
  · have q0 : decide (1 ≤ d.id) = false := decide_eq_false a1
    rw [q0] at em
    replace em : mayB d mem cur = false := em
    rw [em]
    clear em
    go_enter Tryd.func45, Tryd.ntmps45
    go_wp2_with (go_at_call 59; first | ((with_reducible refine (c1 _).mono ?_); rintro e w' ⟨rfl, rfl⟩) | ((with_reducible refine (c2 _).mono ?_); rintro e w' ⟨rfl, rfl⟩))
    go_ret
    exact ⟨by simp [*], (Below.refl _ _).alloc (Nat.le_refl _) _⟩

set_option maxHeartbeats 1000000 in
set_option maxRecDepth 100000 in
theorem mirror_any (d : Dl) (w : World) : Calls Tryd.prog 48 #[d.val] w fun e w' => e = .returned d.mir.val ∧ Below w.heap.size w w' := by
  unfold Dl.val Dl.mir
  go_enter Tryd.func48, Tryd.ntmps48
  go_wp2_with fail
  refine bodyPost_ret (results_cell_row rfl _ _ (w.heap.size + 1) 33 _ (0, 0) _ rfl (new_two w _ _) Tryd.underlying33 rfl (by kernel_rfl)) rfl ?_
  exact ⟨rfl, ((Below.refl _ _).alloc (Nat.le_refl _) _).alloc (by simp) _⟩
set_option maxHeartbeats 1000000 in
set_option maxRecDepth 100000 in
theorem open_any (x : En) (w : World) : Calls Tryd.prog 50 #[x.val] w fun e w' => e = .returned (.bool x.open) ∧ Below w.heap.size w w' := by
  have em : x.open = (decide (x.st = 1) || decide (x.st = 2)) := rfl
  unfold En.val
  by_cases a1 : x.st = 1
  · have q : (x.st == 1) = true := by simpa using a1
    rw [em, decide_eq_true a1, Bool.true_or]
    clear a1 em
    go_enter Tryd.func50, Tryd.ntmps50
    go_wp2
    go_ret
    exact ⟨rfl, (Below.refl _ _).alloc (Nat.le_refl _) _⟩
  · have q : (x.st == 1) = false := by simpa using a1
    have e2 : decide (x.st = 2) = (x.st == 2) := by rw [Bool.eq_iff_iff]; simp
    rw [em, decide_eq_false a1, Bool.false_or, e2]
    clear a1 em e2
    go_enter Tryd.func50, Tryd.ntmps50
    go_wp2
    go_ret
    exact ⟨rfl, (Below.refl _ _).alloc (Nat.le_refl _) _⟩
set_option maxHeartbeats 1000000 in
set_option maxRecDepth 100000 in
theorem side_any (x : En) (m : Int) (w : World) : Calls Tryd.prog 49 #[x.val, .int .i64 m] w fun e w' => e = .returned (.int .i64 (x.side m)) ∧ Below w.heap.size w w' := by
  have em : x.side m = if m = x.d.a then 1 else if m = x.d.b ∧ x.st ≠ 1 then 2 else 0 := rfl
  unfold En.val
  by_cases a1 : m = x.d.a
  · rw [if_pos a1] at em
    rw [em]
    have q : (m == x.d.a) = true := by simpa using a1
    clear a1 em
    go_enter Tryd.func49, Tryd.ntmps49
    go_wp2
    go_ret
    exact ⟨rfl, (Below.refl _ _).alloc (Nat.le_refl _) _⟩
  · rw [if_neg a1] at em
    have q : (m == x.d.a) = false := by simpa using a1
    by_cases a2 : m = x.d.b
    · have q2 : (m == x.d.b) = true := by simpa using a2
      by_cases a3 : x.st = 1
      · have q3 : (x.st == 1) = true := by simpa using a3
        have q4 : (x.st != 1) = false := by simpa using a3
        rw [if_neg (by simp [a3])] at em
        rw [em]
        clear a1 a2 a3 em
        go_enter Tryd.func49, Tryd.ntmps49
        go_wp2
        go_ret
        exact ⟨rfl, (Below.refl _ _).alloc (Nat.le_refl _) _⟩
      · have q3 : (x.st == 1) = false := by simpa using a3
        have q4 : (x.st != 1) = true := by simpa using a3
        rw [if_pos ⟨a2, a3⟩] at em
        rw [em]
        clear a1 a2 a3 em
        go_enter Tryd.func49, Tryd.ntmps49
        go_wp2
        go_ret
        exact ⟨rfl, (Below.refl _ _).alloc (Nat.le_refl _) _⟩
    · have q2 : (m == x.d.b) = false := by simpa using a2
      rw [if_neg (by simp [a2])] at em
      rw [em]
      clear a1 a2 em
      go_enter Tryd.func49, Tryd.ntmps49
      go_wp2
      go_ret
      exact ⟨rfl, (Below.refl _ _).alloc (Nat.le_refl _) _⟩
end Go.Proofs.YtflbggehgjllcaaDoor
