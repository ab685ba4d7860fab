/- awake answers true. -/
import Derived.Test.YtdbjfginigekbaaS6
namespace Go.Proofs.Ytdbjfginigekbaa
open Go.RowKit
set_option linter.unusedVariables false

theorem shares151 : shares 10 [1, 5, 1] = [2, 7, 1] := by decide
theorem shares111 : shares 10 [1, 1, 1] = [4, 3, 3] := by decide
theorem fills304 : fills 10 [3, 0, 4] = [3, 0, 4] := by decide

theorem seq1 (w : World) (x : Int) (hx : Amt x) : Seq64 (w.alloc (.cells #[.int .i64 x] 2)) (some ⟨w.heap.size, 0, none⟩) 1 [x] := by
  refine ⟨rfl, amt_getD _ (by simp; exact hx), by decide, .inr ⟨w.heap.size, 0, rfl, by simp, fun i hi => ?_⟩⟩
  obtain rfl : i = 0 := by omega
  go_simp

theorem amt_small (z : Int) (h : 0 ≤ z ∧ z ≤ 1000) : Amt z := ⟨by omega, by omega⟩

theorem aw1 (w : World) : Calls Try.prog 8 #[.int .i64 10, .slice (some ⟨w.heap.size, 0, none⟩) 3 3] (w.alloc (.cells #[.int .i64 1, .int .i64 5, .int .i64 1] 2)) fun e w' =>
    Below (w.heap.size + 1) (w.alloc (.cells #[.int .i64 1, .int .i64 5, .int .i64 1] 2)) w' ∧ ∃ g, e = .returned (.tuple #[.slice (some ⟨g, 0, none⟩) 3 3, .int .i64 0]) ∧ IRow 2 w' g [2, 7, 1] := by
  refine (shares_any 10 _ 3 3 [1, 5, 1] _ (amt_small _ (by decide)) (seq3 w 1 5 1 (amt_small _ (by decide)) (amt_small _ (by decide)) (amt_small _ (by decide)))).mono ?_
  rintro e w' ⟨hb, h⟩
  rw [World.size_alloc] at hb
  rcases h with ⟨h, _⟩ | ⟨_, g, rfl, _, hI⟩
  · exact absurd (by decide) h
  · rw [shares151] at hI; exact ⟨hb, g, rfl, hI⟩

theorem aw2 (w : World) : Calls Try.prog 10 #[.int .i64 10, .int .i64 3] w fun e w' => Below w.heap.size w w' ∧ ∃ g, e = .returned (.tuple #[.slice (some ⟨g, 0, none⟩) 3 3, .int .i64 0]) ∧ IRow 2 w' g [4, 3, 3] := by
  refine (even_any 10 3 w (amt_small _ (by decide)) (amt_small _ (by decide))).mono ?_
  rintro e w' ⟨hb, h⟩
  rcases h with ⟨h, _⟩ | ⟨h, _⟩ | ⟨m, hm, _, _, h⟩
  · omega
  · omega
  · obtain rfl : m = 3 := by omega
    rcases h with ⟨h, _⟩ | ⟨_, g, rfl, _, hI⟩
    · exact absurd (by decide) h
    · have : List.replicate 3 (1 : Int) = [1, 1, 1] := rfl
      rw [this, shares111] at hI; exact ⟨hb, g, rfl, hI⟩

theorem aw3 (w : World) : Calls Try.prog 12 #[.int .i64 10, .slice (some ⟨w.heap.size, 0, none⟩) 3 3] (w.alloc (.cells #[.int .i64 3, .int .i64 0, .int .i64 4] 2)) fun e w' =>
    Below (w.heap.size + 1) (w.alloc (.cells #[.int .i64 3, .int .i64 0, .int .i64 4] 2)) w' ∧ ∃ g, e = .returned (.tuple #[.slice (some ⟨g, 0, none⟩) 3 3, .int .i64 3, .int .i64 0]) ∧ IRow 2 w' g [3, 0, 4] := by
  refine (fill_any 10 _ 3 3 [3, 0, 4] _ (amt_small _ (by decide)) (seq3 w 3 0 4 (amt_small _ (by decide)) (amt_small _ (by decide)) (amt_small _ (by decide)))).mono ?_
  rintro e w' ⟨hb, h⟩
  rw [World.size_alloc] at hb
  rcases h with ⟨h, _⟩ | ⟨_, g, rfl, _, hI⟩
  · exact absurd (by decide) h
  · rw [fills304] at hI; exact ⟨hb, g, rfl, hI⟩

theorem aw4 (w : World) : Calls Try.prog 8 #[.int .i64 10, .slice (some ⟨w.heap.size, 0, none⟩) 1 1] (w.alloc (.cells #[.int .i64 0] 2)) fun e w' =>
    Below (w.heap.size + 1) (w.alloc (.cells #[.int .i64 0] 2)) w' ∧ e = .returned (.tuple #[.slice none 0 0, .int .i64 1]) := by
  refine (shares_any 10 _ 1 1 [0] _ (amt_small _ (by decide)) (seq1 w 0 (amt_small _ (by decide)))).mono ?_
  rintro e w' ⟨hb, h⟩
  rw [World.size_alloc] at hb
  have e1 : shE 10 [0] = 1 := by decide
  rcases h with ⟨_, rfl⟩ | ⟨h, _⟩
  · exact ⟨hb, by rw [e1]⟩
  · rw [e1] at h; exact absurd h (by decide)

theorem aw5 (w : World) : Calls Try.prog 10 #[.int .i64 1, .int .i64 65] w fun e w' => Below w.heap.size w w' ∧ e = .returned (.tuple #[.slice none 0 0, .int .i64 4]) := by
  refine (even_any 1 65 w (amt_small _ (by decide)) (amt_small _ (by decide))).mono ?_
  rintro e w' ⟨hb, h⟩
  rcases h with ⟨_, rfl⟩ | ⟨h, _⟩ | ⟨m, hm, _, _, h⟩
  · exact ⟨hb, rfl⟩
  · omega
  · omega

theorem aw6 (w : World) (g : Nat) (x y z : Int) (hx : 0 ≤ x ∧ x ≤ 1000) (hy : 0 ≤ y ∧ y ≤ 1000) (hz : 0 ≤ z ∧ z ≤ 1000) (h : IRow 2 w g [x, y, z]) :
    Calls Try.prog 14 #[.slice (some ⟨g, 0, none⟩) 3 3, .slice (some ⟨w.heap.size, 0, none⟩) 3 3] (w.alloc (.cells #[.int .i64 x, .int .i64 y, .int .i64 z] 2)) fun e w' =>
    e = .returned (.bool true) ∧ Below (w.heap.size + 1) (w.alloc (.cells #[.int .i64 x, .int .i64 y, .int .i64 z] 2)) w' := by
  have a := amt_small x hx
  have b := amt_small y hy
  have c := amt_small z hz
  have hs := same_any _ _ 3 3 3 3 [x, y, z] [x, y, z] _ ((h.alloc (.cells #[.int .i64 x, .int .i64 y, .int .i64 z] 2)).seq (n := 3) rfl (by decide) (amt_getD _ (by simp; exact ⟨a, b, c⟩))) (seq3 w x y z a b c)
  rw [World.size_alloc, decide_eq_true rfl] at hs
  exact hs

set_option maxHeartbeats 4000000 in
set_option maxRecDepth 100000 in
theorem awake_any (w : World) : Calls Try.prog 7 #[] w fun e w' => e = .returned (.bool true) ∧ Below w.heap.size w w' := by
  go_enter Try.func7, Try.ntmps7
  go_upto_region 2 with (first | (go_at_call 8; refine (aw1 w).mono ?_; rintro e w1 ⟨hb1, g1, rfl, hI1⟩))
  have hB : Below w.heap.size w w1 := ((Below.refl _ _).alloc (Nat.le_refl _) _).trans (hb1.mono (by omega))
  clear hb1
  go_upto_region 3 with (first | (go_at_call 10; refine (aw2 w1).mono ?_; rintro e w2 ⟨hb2, g2, rfl, hI2⟩))
  replace hB := hB.trans (hb2.mono hB.size)
  replace hI1 := hI1.kept hb2
  clear hb2
  go_upto_region 4 with (first | (go_at_call 12; refine (aw3 w2).mono ?_; rintro e w3 ⟨hb3, g3, rfl, hI3⟩))
  replace hB := (hB.alloc hB.size _).trans (hb3.mono (by have := hB.size; omega))
  replace hI1 := (hI1.alloc _).kept (by rw [World.size_alloc]; exact hb3)
  replace hI2 := (hI2.alloc _).kept (by rw [World.size_alloc]; exact hb3)
  clear hb3
  go_upto_region 5 with (first | (go_at_call 8; refine (aw4 w3).mono ?_; rintro e w4 ⟨hb4, rfl⟩))
  replace hB := (hB.alloc hB.size _).trans (hb4.mono (by have := hB.size; omega))
  replace hI1 := (hI1.alloc _).kept (by rw [World.size_alloc]; exact hb4)
  replace hI2 := (hI2.alloc _).kept (by rw [World.size_alloc]; exact hb4)
  replace hI3 := (hI3.alloc _).kept (by rw [World.size_alloc]; exact hb4)
  clear hb4
  go_upto_region 6 with (first | (go_at_call 10; refine (aw5 w4).mono ?_; rintro e w5 ⟨hb5, rfl⟩))
  replace hB := hB.trans (hb5.mono hB.size)
  replace hI1 := hI1.kept hb5
  replace hI2 := hI2.kept hb5
  replace hI3 := hI3.kept hb5
  clear hb5
  go_wp2_with (first
    | (go_at_call 14; refine (aw6 w5 g1 2 7 1 (by decide) (by decide) (by decide) hI1).mono ?_; rintro e w6 ⟨rfl, hb6⟩
       have k2 := (hI2.alloc _).kept (by rw [World.size_alloc]; exact hb6); have k3 := (hI3.alloc _).kept (by rw [World.size_alloc]; exact hb6)
       have hB6 := (hB.alloc hB.size _).trans (hb6.mono (by have := hB.size; omega)); clear hI1 hI2 hI3 hb6)
    | (go_at_call 14; refine (aw6 w6 g2 4 3 3 (by decide) (by decide) (by decide) k2).mono ?_; rintro e w7 ⟨rfl, hb7⟩
       have m3 := (k3.alloc _).kept (by rw [World.size_alloc]; exact hb7)
       have hB7 := (hB6.alloc hB6.size _).trans (hb7.mono (by have := hB6.size; omega)); clear k2 k3 hb7)
    | (go_at_call 14; refine (aw6 w7 g3 3 0 4 (by decide) (by decide) (by decide) m3).mono ?_; rintro e w8 ⟨rfl, hb8⟩
       have hB8 := (hB7.alloc hB7.size _).trans (hb8.mono (by have := hB7.size; omega)); clear m3 hb8))
  go_ret
  exact ⟨rfl, hB8⟩

end Go.Proofs.Ytdbjfginigekbaa
