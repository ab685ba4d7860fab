/- The contracts of the reference's Settle and Rescind. -/
import Derived.Test.YtflbggehgjllcaaDoorRD
namespace Go.Proofs.YtflbggehgjllcaaDoor
open Go.RowKit
set_option linter.unusedVariables false
section
variable {P : Nat → Prop} {w : World} {rb : Nat} {b : Bk} {v : Value}
theorem rset_at {W : World} (h : RB P W rb b) (i : Nat) (hi : i < b.l.length) (x : En) (y : Value) (hy : x.rval = y) (hlen : b.l.length ≤ 1000) (hf : ∀ j, W.heap.size ≤ j → P j) :
    Calls Tryd.prog 52 #[.pointer (some ⟨rb, 0, none⟩), .int .i64 (i : Int), y] W fun e w' => e = .returned (.tuple #[]) ∧ RB P w' rb { b with l := b.l.set i x } ∧ Kp P W w' := hy ▸ rset_any h i hi x hlen hf
set_option maxHeartbeats 2000000 in
set_option maxRecDepth 100000 in
theorem rsettle_any (h : RB P w rb b) (id : Int) (hlen : b.l.length ≤ 1000) (hf : ∀ j, w.heap.size ≤ j → P j) :
    Calls Tryd.prog 26 #[.pointer (some ⟨rb, 0, none⟩), .int .i64 id] w fun e w' => e = .returned (.int .i64 (b.set id).1) ∧ RB P w' rb (b.set id).2 ∧ Kp P w w' := by
  have c := at_any h id hlen
  rcases ha : atL b.l id with _ | i
  · rw [ha] at c
    have e : b.set id = (5, b) := by unfold Bk.set; rw [ha]
    rw [e]
    replace h := Lib.hid h
    replace c : Calls Tryd.prog 28 #[.pointer (some ⟨rb, 0, none⟩), .int .i64 id] w fun e w' => e = .returned (.int .i64 (-1)) ∧ w = w' := c
    clear e ha
    go_enter Tryd.func26, Tryd.ntmps26
    go_wp2_with (go_at_call 28; (with_reducible refine c.mono ?_); rintro e w' ⟨rfl, rfl⟩)
    go_ret
    exact ⟨rfl, h.out, Kp.refl _ _⟩
  · obtain ⟨hlt, -⟩ := atL_some ha
    rw [ha] at c
    replace c : Calls Tryd.prog 28 #[.pointer (some ⟨rb, 0, none⟩), .int .i64 id] w fun e w' => e = .returned (.int .i64 (i : Int)) ∧ w = w' := c
    have hset : b.set id = if (b.l[i]).st ≠ 2 then (7, b) else (0, { b with l := b.l.set i { b.l[i] with st := 3 } }) := by unfold Bk.set; rw [ha]; dsimp only; rw [getD_at hlt]
    obtain ⟨v, h⟩ := h
    obtain ⟨g, cap, cur, rfl, -⟩ := orow_some h.row (by omega)
    obtain ⟨e0, e1, e2, e3, e4, e5, e6, e7, e8, e9, e10⟩ := h.entry hlt rfl
    have c2 : w.cell? ⟨rb, 2, none⟩ = some (.slice (some ⟨g, 0, none⟩) b.l.length cap) := obj_cell h.obj rfl
    have hb := fun o => (Below.refl w.heap.size w).alloc (Nat.le_refl _) o
    have cs := fun (st : Int) o => rset_at (P := P) (below_rb ⟨_, h⟩ (hb o)) i hlt { b.l[i] with st := st } (.agg #[.int .i64 (b.l[i]).d.id, .int .i64 (b.l[i]).d.a, .int .i64 (b.l[i]).d.b, .int .i64 (b.l[i]).d.sc, .int .i64 (b.l[i]).d.bc, .int .i64 (b.l[i]).d.s, .int .i64 (b.l[i]).d.t, .int .i64 st, .bool (b.l[i]).byA, .bool (b.l[i]).byB, .int .i64 (b.l[i]).nth]) rfl hlen fun j hj => hf j (by have := (hb o).size; omega)
    have hiz : (0 : Int) ≤ (i : Int) := by omega
    have hin : (i : Int) < (b.l.length : Int) := by omega
    obtain ⟨n, hn⟩ : ∃ n, n = b.l.length := ⟨_, rfl⟩
    rw [← hn] at c2 hin
    have hP : RB P w rb b := ⟨_, h⟩
    clear h
    by_cases h2 : (b.l[i]).st = 2
    · rw [if_neg (by simpa using h2)] at hset
      rw [hset]
      have q : ((b.l[i]).st == 2) = true := by simpa using h2
      generalize b.l[i] = x at *
      replace hP := Lib.hid hP
      replace cs := Lib.hid cs
      replace hb := Lib.hid hb
      replace h2 := Lib.hid h2
      clear hset ha hn hlen
      go_enter Tryd.func26, Tryd.ntmps26
      go_wp2_with (first | (go_at_call 28; (with_reducible refine c.mono ?_); rintro e w' ⟨rfl, rfl⟩) | (go_at_call 52; (with_reducible refine (cs.out 3 _).mono ?_); rintro e w2 ⟨rfl, hR, hK⟩; replace hR := Lib.hid hR; replace hK := Lib.hid hK))
      go_ret
      exact ⟨rfl, hR.out, (Kp.of_below (hb.out _)).trans hK.out⟩
    · rw [if_pos h2] at hset
      rw [hset]
      have q : ((b.l[i]).st == 2) = false := by simpa using h2
      generalize b.l[i] = x at *
      replace hP := Lib.hid hP
      replace cs := Lib.hid cs
      replace hb := Lib.hid hb
      replace h2 := Lib.hid h2
      clear hset ha hn hlen
      go_enter Tryd.func26, Tryd.ntmps26
      go_wp2_with (first | (go_at_call 28; (with_reducible refine c.mono ?_); rintro e w' ⟨rfl, rfl⟩))
      go_ret
      exact ⟨rfl, below_rb hP.out (hb.out _), Kp.of_below (hb.out _)⟩
end
end Go.Proofs.YtflbggehgjllcaaDoor
