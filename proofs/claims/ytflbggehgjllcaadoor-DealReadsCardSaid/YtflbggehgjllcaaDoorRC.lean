/- The contracts of the reference's May, asked, set. -/
import Derived.Test.YtflbggehgjllcaaDoorRA
import Derived.BigQuiet
namespace Go.Proofs.YtflbggehgjllcaaDoor
open Go.RowKit
set_option linter.unusedVariables false
set_option maxHeartbeats 4000000 in
set_option maxRecDepth 100000 in
theorem may_any (d : Dl) (mem cur : Int) (rb : Nat) (w : World) (c0 : w.cell? ⟨rb, 0, none⟩ = some (.int .i64 mem)) (c1 : w.cell? ⟨rb, 1, none⟩ = some (.int .i64 cur)) : Calls Tryd.prog 43 #[.pointer (some ⟨rb, 0, none⟩), d.val] w fun e w' => e = .returned (.bool (mayB d mem cur)) ∧ Below w.heap.size w w' := by
  have hb0 : Below w.heap.size w (w.alloc d.obj) := (Below.refl _ _).alloc (Nat.le_refl _) _
  have hn := heap_alloc_new w d.obj
  have c0 : (w.alloc d.obj).cell? ⟨rb, 0, none⟩ = some (.int .i64 mem) := (hb0.cell (p := ⟨rb, 0, none⟩) (World.block_lt_of_cell? _ _ c0)).trans c0
  have c1 : (w.alloc d.obj).cell? ⟨rb, 1, none⟩ = some (.int .i64 cur) := (hb0.cell (p := ⟨rb, 1, none⟩) (World.block_lt_of_cell? _ _ c1)).trans c1
  have hmi := @mayB_iff d mem cur
  obtain ⟨R, hR⟩ : ∃ R, R = mayB d mem cur := ⟨_, rfl⟩
  rw [← hR] at hmi ⊢
  replace hR := Lib.hid hR
  unfold Dl.val
  unfold Dl.obj at *
  replace hb0 := Lib.hid hb0
  have k0 := obj_cell hn (i := 0) rfl
  have k1 := obj_cell hn (i := 1) rfl
  have k2 := obj_cell hn (i := 2) rfl
  have k3 := obj_cell hn (i := 3) rfl
  have k4 := obj_cell hn (i := 4) rfl
  have k5 := obj_cell hn (i := 5) rfl
  have k6 := obj_cell hn (i := 6) rfl
  replace hn := Lib.hid hn
  by_cases p0 : d.id < 1
  · have hr : Hid (R = false) := Lib.hid (by cases hx : R with | false => rfl | true => (have := hmi.1 hx; omega))
    clear hmi
    go_enter Tryd.func43, Tryd.ntmps43
    go_wp2_with fail
    go_ret
    exact ⟨hr.out ▸ rfl, hb0.out⟩
  · have q0 := True.intro
    by_cases p1 : 2147483647 < d.id
    · have hr : Hid (R = false) := Lib.hid (by cases hx : R with | false => rfl | true => (have := hmi.1 hx; omega))
      clear hmi
      go_enter Tryd.func43, Tryd.ntmps43
      go_wp2_with fail
      go_ret
      exact ⟨hr.out ▸ rfl, hb0.out⟩
    · have q1 := True.intro
      by_cases p2 : d.s < 1
      · have hr : Hid (R = false) := Lib.hid (by cases hx : R with | false => rfl | true => (have := hmi.1 hx; omega))
        clear hmi
        go_enter Tryd.func43, Tryd.ntmps43
        go_wp2_with fail
        go_ret
        exact ⟨hr.out ▸ rfl, hb0.out⟩
      · have q2 := True.intro
        by_cases p3 : d.t < 1
        · have hr : Hid (R = false) := Lib.hid (by cases hx : R with | false => rfl | true => (have := hmi.1 hx; omega))
          clear hmi
          go_enter Tryd.func43, Tryd.ntmps43
          go_wp2_with fail
          go_ret
          exact ⟨hr.out ▸ rfl, hb0.out⟩
        · have q3 := True.intro
          by_cases p4 : d.a = d.b
          · have q4 : (d.a == d.b) = true := by simpa using p4
            have hr : Hid (R = false) := Lib.hid (by cases hx : R with | false => rfl | true => (have := hmi.1 hx; omega))
            clear hmi
            replace p4 := Lib.hid p4
            go_enter Tryd.func43, Tryd.ntmps43
            go_wp2_with fail
            go_ret
            exact ⟨hr.out ▸ rfl, hb0.out⟩
          · have q4 : (d.a == d.b) = false := by simpa using p4
            by_cases p5 : d.sc = d.bc
            · have q5 : (d.sc == d.bc) = true := by simpa using p5
              have hr : Hid (R = false) := Lib.hid (by cases hx : R with | false => rfl | true => (have := hmi.1 hx; omega))
              clear hmi
              replace p5 := Lib.hid p5
              go_enter Tryd.func43, Tryd.ntmps43
              go_wp2_with fail
              go_ret
              exact ⟨hr.out ▸ rfl, hb0.out⟩
            · have q5 : (d.sc == d.bc) = false := by simpa using p5
              by_cases p6 : d.a < 0
              · have r6 : decide (d.a < 0) = true := by simpa using p6
                have hr : Hid (R = false) := Lib.hid (by cases hx : R with | false => rfl | true => (have := hmi.1 hx; omega))
                clear hmi
                replace p6 := Lib.hid p6
                go_enter Tryd.func43, Tryd.ntmps43
                go_wp2_with fail
                go_quiet (fail)
                go_wp2_with fail
                go_ret
                exact ⟨hr.out ▸ rfl, ⟨hb0.out.os, hb0.out.tape, hb0.out.output, hb0.out.size, hb0.out.block⟩⟩
              · have q6 := True.intro
                have r6 : decide (d.a < 0) = false := by simpa using p6
                by_cases p7 : mem ≤ d.a
                · have r7 : decide (d.a ≥ mem) = true := by simpa using p7
                  have hr : Hid (R = false) := Lib.hid (by cases hx : R with | false => rfl | true => (have := hmi.1 hx; omega))
                  clear hmi
                  replace p7 := Lib.hid p7
                  go_enter Tryd.func43, Tryd.ntmps43
                  go_wp2_with fail
                  go_quiet (fail)
                  go_wp2_with fail
                  go_ret
                  exact ⟨hr.out ▸ rfl, ⟨hb0.out.os, hb0.out.tape, hb0.out.output, hb0.out.size, hb0.out.block⟩⟩
                · have q7 := True.intro
                  have r7 : decide (d.a ≥ mem) = false := by simpa using p7
                  by_cases p8 : d.b < 0
                  · have r8 : decide (d.b < 0) = true := by simpa using p8
                    have hr : Hid (R = false) := Lib.hid (by cases hx : R with | false => rfl | true => (have := hmi.1 hx; omega))
                    clear hmi
                    replace p8 := Lib.hid p8
                    go_enter Tryd.func43, Tryd.ntmps43
                    go_wp2_with fail
                    go_quiet (fail)
                    go_wp2_with fail
                    go_ret
                    exact ⟨hr.out ▸ rfl, ⟨hb0.out.os, hb0.out.tape, hb0.out.output, hb0.out.size, hb0.out.block⟩⟩
                  · have q8 := True.intro
                    have r8 : decide (d.b < 0) = false := by simpa using p8
                    by_cases p9 : mem ≤ d.b
                    · have r9 : decide (d.b ≥ mem) = true := by simpa using p9
                      have hr : Hid (R = false) := Lib.hid (by cases hx : R with | false => rfl | true => (have := hmi.1 hx; omega))
                      clear hmi
                      replace p9 := Lib.hid p9
                      go_enter Tryd.func43, Tryd.ntmps43
                      go_wp2_with fail
                      go_quiet (fail)
                      go_wp2_with fail
                      go_ret
                      exact ⟨hr.out ▸ rfl, ⟨hb0.out.os, hb0.out.tape, hb0.out.output, hb0.out.size, hb0.out.block⟩⟩
                    · have q9 := True.intro
                      have r9 : decide (d.b ≥ mem) = false := by simpa using p9
                      by_cases p10 : ¬ 0 ≤ d.sc
                      · have r10 : decide (d.sc ≥ 0) = false := by simpa using p10
                        have hr : Hid (R = false) := Lib.hid (by cases hx : R with | false => rfl | true => (have := hmi.1 hx; omega))
                        clear hmi
                        replace p10 := Lib.hid p10
                        go_enter Tryd.func43, Tryd.ntmps43
                        go_wp2_with fail
                        go_quiet (fail)
                        go_wp2_with fail
                        go_quiet (fail)
                        go_wp2_with fail
                        go_ret
                        exact ⟨hr.out ▸ rfl, ⟨hb0.out.os, hb0.out.tape, hb0.out.output, hb0.out.size, hb0.out.block⟩⟩
                      · have p10 : 0 ≤ d.sc := Classical.byContradiction p10
                        have r10 : decide (d.sc ≥ 0) = true := by simpa using p10
                        by_cases p11 : ¬ d.sc < cur
                        · have r11 : decide (d.sc < cur) = false := by simpa using p11
                          have hr : Hid (R = false) := Lib.hid (by cases hx : R with | false => rfl | true => (have := hmi.1 hx; omega))
                          clear hmi
                          replace p11 := Lib.hid p11
                          go_enter Tryd.func43, Tryd.ntmps43
                          go_wp2_with fail
                          go_quiet (fail)
                          go_wp2_with fail
                          go_quiet (fail)
                          go_wp2_with fail
                          go_ret
                          exact ⟨hr.out ▸ rfl, ⟨hb0.out.os, hb0.out.tape, hb0.out.output, hb0.out.size, hb0.out.block⟩⟩
                        · have p11 : d.sc < cur := Classical.byContradiction p11
                          have r11 : decide (d.sc < cur) = true := by simpa using p11
                          by_cases p12 : ¬ 0 ≤ d.bc
                          · have r12 : decide (d.bc ≥ 0) = false := by simpa using p12
                            have hr : Hid (R = false) := Lib.hid (by cases hx : R with | false => rfl | true => (have := hmi.1 hx; omega))
                            clear hmi
                            replace p12 := Lib.hid p12
                            go_enter Tryd.func43, Tryd.ntmps43
                            go_wp2_with fail
                            go_quiet (fail)
                            go_wp2_with fail
                            go_quiet (fail)
                            go_wp2_with fail
                            go_ret
                            exact ⟨hr.out ▸ rfl, ⟨hb0.out.os, hb0.out.tape, hb0.out.output, hb0.out.size, hb0.out.block⟩⟩
                          · have p12 : 0 ≤ d.bc := Classical.byContradiction p12
                            have r12 : decide (d.bc ≥ 0) = true := by simpa using p12
                            by_cases p13 : ¬ d.bc < cur
                            · have r13 : decide (d.bc < cur) = false := by simpa using p13
                              have hr : Hid (R = false) := Lib.hid (by cases hx : R with | false => rfl | true => (have := hmi.1 hx; omega))
                              clear hmi
                              replace p13 := Lib.hid p13
                              go_enter Tryd.func43, Tryd.ntmps43
                              go_wp2_with fail
                              go_quiet (fail)
                              go_wp2_with fail
                              go_quiet (fail)
                              go_wp2_with fail
                              go_ret
                              exact ⟨hr.out ▸ rfl, ⟨hb0.out.os, hb0.out.tape, hb0.out.output, hb0.out.size, hb0.out.block⟩⟩
                            · have p13 : d.bc < cur := Classical.byContradiction p13
                              have r13 : decide (d.bc < cur) = true := by simpa using p13
                              have hr : Hid (R = true) := Lib.hid (hmi.2 ⟨by omega, by omega, ⟨by omega, by omega, by omega, by omega, by omega⟩, ⟨by omega, by omega, by omega, by omega, by omega⟩, by omega, by omega⟩)
                              clear hmi
                              go_enter Tryd.func43, Tryd.ntmps43
                              go_wp2_with fail
                              go_quiet (fail)
                              go_wp2_with fail
                              go_quiet (fail)
                              go_wp2_with fail
                              go_ret
                              exact ⟨hr.out ▸ rfl, ⟨hb0.out.os, hb0.out.tape, hb0.out.output, hb0.out.size, hb0.out.block⟩⟩
set_option maxHeartbeats 1000000 in
set_option maxRecDepth 100000 in
theorem asked_any (x : En) (w : World) (h0 : 0 ≤ x.ask) (h3 : x.ask ≤ 3) : Calls Tryd.prog 33 #[x.rval] w fun e w' => e = .returned (.int .i64 x.ask) ∧ Below w.heap.size w w' := by
  have hb0 : Below w.heap.size w (w.alloc (.cells x.rcs.toArray 61)) := (Below.refl _ _).alloc (Nat.le_refl _) _
  have hn := heap_alloc_new w (.cells x.rcs.toArray 61)
  obtain ⟨k, hk⟩ : ∃ k, k = x.ask := ⟨_, rfl⟩
  have hA : x.byA = (decide (k = 1) || decide (k = 3)) := by rw [hk]; rfl
  have hB : x.byB = (decide (k = 2) || decide (k = 3)) := by rw [hk]; rfl
  rw [← hk]
  have hc : k = 0 ∨ k = 1 ∨ k = 2 ∨ k = 3 := by omega
  unfold En.rval
  unfold En.rcs at *
  replace hb0 := Lib.hid hb0
  have e8 := obj_cell hn (i := 8) rfl
  have e9 := obj_cell hn (i := 9) rfl
  replace hn := Lib.hid hn
  replace hk := Lib.hid hk
  generalize x.byA = ba at *
  generalize x.byB = bb at *
  clear h0 h3
  rcases hc with rfl | rfl | rfl | rfl
  all_goals
    simp at hA hB
    subst hA; subst hB
    go_enter Tryd.func33, Tryd.ntmps33
    go_wp2_with fail
    go_ret
    exact ⟨rfl, hb0.out⟩
end Go.Proofs.YtflbggehgjllcaaDoor
