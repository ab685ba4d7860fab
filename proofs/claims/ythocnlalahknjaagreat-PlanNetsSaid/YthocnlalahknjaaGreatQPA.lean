/- Dues as plain data; cmp.Or of two; the two ways in which dues are put in order. -/
import Derived.Test.YthocnlalahknjaaGreatShelf
import Derived.Test.YthocnlalahknjaaGreatQDb
import Derived.StillTailTactics
import Derived.Shelf.Sort.Plain
namespace Go.Proofs.YthocnlalahknjaaGreat.Dd
open Go.RowKit Go.Maps Go.Sort
set_option linter.unusedVariables false

/-- a due -/
structure Du where
  m : Int
  c : Int
  t : Int
  n : Int
deriving DecidableEq, Inhabited
def Du.cs (d : Du) : List Value := [.int .i64 d.m, .int .i64 d.c, .int .i64 d.t, .int .i64 d.n]
def Du.val (d : Du) : Value := .agg #[.int .i64 d.m, .int .i64 d.c, .int .i64 d.t, .int .i64 d.n]
theorem Du.cs_len (d : Du) : d.cs.length = 4 := rfl
theorem Du.cs_one (d : Du) : ∀ u ∈ d.cs, u.oneCell' = true := by
  intro u hu; unfold Du.cs at hu; simp at hu; rcases hu with rfl | rfl | rfl | rfl <;> rfl
def cellsU (l : List Du) : List Value := l.flatMap Du.cs
theorem cellsU_len (l : List Du) : (cellsU l).length = l.length * 4 := by
  unfold cellsU
  induction l with
  | nil => rfl
  | cons x l ih => rw [List.flatMap_cons, List.length_append, ih, Du.cs_len]; simp; omega
theorem cellsU_app (l : List Du) (e : Du) : cellsU (l ++ [e]) = cellsU l ++ e.cs := by unfold cellsU; simp
theorem cellsU_app2 (l l2 : List Du) : cellsU (l ++ l2) = cellsU l ++ cellsU l2 := by unfold cellsU; simp
theorem cellsU_cons (e : Du) (l : List Du) : cellsU (e :: l) = e.cs ++ cellsU l := by unfold cellsU; simp
theorem cellsU_at : ∀ {l : List Du} {i : Nat} (h : i < l.length) (j : Nat), j < 4 → (cellsU l)[i * 4 + j]? = l[i].cs[j]?
  | [], i, h, j, _ => by simp at h
  | x :: r, 0, h, j, hj => by rw [cellsU_cons, Nat.zero_mul, Nat.zero_add, List.getElem?_append_left (by rw [Du.cs_len]; exact hj)]; rfl
  | x :: r, i + 1, h, j, hj => by
    rw [cellsU_cons, List.getElem?_append_right (by rw [Du.cs_len]; omega), Du.cs_len]
    have e : (i + 1) * 4 + j - 4 = i * 4 + j := by omega
    rw [e, cellsU_at (by simpa using h) j hj]; rfl

/-- of two numbers the first one that isn't 0 -/
def orOf (x y : Int) : Int := if x = 0 then y else x
/-- by member, then by currency -/
def byAcc (d e : Du) : Int := orOf (Lib.compareInt d.m e.m) (Lib.compareInt d.c e.c)
/-- by tick, then by both -/
def byTk (d e : Du) : Int := orOf (Lib.compareInt d.t e.t) (byAcc d e)

set_option maxHeartbeats 1000000 in
set_option maxRecDepth 100000 in
theorem or_any (g : Nat) (x y : Int) (w : World) (h0 : w.cell? ⟨g, 0, none⟩ = some (.int .i64 x)) (h1 : w.cell? ⟨g, 1, none⟩ = some (.int .i64 y)) :
    Calls Tryz.prog 66 #[.slice (some ⟨g, 0, none⟩) 2 2] w fun e w' => e = .returned (.int .i64 (orOf x y)) ∧ w' = w := by
  obtain ⟨R, hR⟩ : ∃ R, R = orOf x y := ⟨_, rfl⟩
  rw [← hR]
  unfold orOf at hR
  replace hR := Lib.hid hR
  go_enter Tryz.func66, Tryz.ntmps66
  go_wp2_with fail
  go_loopw [8] (fun i wr => ∃ k : Nat, k ≤ 2 ∧ i = .int .i64 (k : Int) ∧ Hid (wr = w ∧ (0 < k → x = 0) ∧ (1 < k → y = 0))) (fun i _ => 2 - (intOf i).toNat)
  case atStart => exact ⟨0, by omega, rfl, Lib.hid ⟨rfl, fun h => by omega, fun h => by omega⟩⟩
  case round =>
    obtain ⟨k, hk, rfl, hS⟩ := hrel
    obtain ⟨rfl, hx, hy⟩ := hS.out
    obtain rfl | rfl | rfl : k = 0 ∨ k = 1 ∨ k = 2 := by omega
    · by_cases hx : x = 0
      · have q : (x != 0) = false := by simpa using hx
        replace hx := Lib.hid hx
        go_wp2_with fail
        go_roundw
        case rel => exact ⟨1, by omega, by go_num, Lib.hid ⟨(by first | rfl | trivial), fun _ => hx.out, fun h => by omega⟩⟩
        case measure => simp [intOf]
      · have q : (x != 0) = true := by simpa using hx
        have e : R = x := by rw [hR.out, if_neg hx]
        replace hx := Lib.hid hx
        replace e := Lib.hid e
        go_wp2_with fail
        go_ret
        exact ⟨by rw [e.out]; rfl, (by first | rfl | trivial)⟩
    · have hx0 := hx (by omega)
      have e : R = y := by rw [hR.out, if_pos hx0]
      by_cases hy : y = 0
      · have q : (y != 0) = false := by simpa using hy
        replace hy := Lib.hid hy
        replace e := Lib.hid e
        replace hx0 := Lib.hid hx0
        go_wp2_with fail
        go_roundw
        case rel => exact ⟨2, by omega, by go_num, Lib.hid ⟨(by first | rfl | trivial), fun _ => hx0.out, fun _ => hy.out⟩⟩
        case measure => simp [intOf]
      · have q : (y != 0) = true := by simpa using hy
        replace hy := Lib.hid hy
        replace e := Lib.hid e
        replace hx0 := Lib.hid hx0
        go_wp2_with fail
        go_ret
        exact ⟨by rw [e.out]; rfl, (by first | rfl | trivial)⟩
    · have e : R = 0 := by rw [hR.out, if_pos (hx (by omega)), hy (by omega)]
      replace e := Lib.hid e
      replace hx := Lib.hid hx
      replace hy := Lib.hid hy
      go_wp2_with fail
      go_ret
      exact ⟨by rw [e.out]; rfl, (by first | rfl | trivial)⟩

theorem grow3 (w : World) (a b c : Obj) : (((w.alloc a).alloc b).alloc c).drew = grow (w.drewN 1) #[a, b, c] := by
  show (((w.alloc a).alloc b).alloc c).drewN 1 = _
  simp only [alloc_eq_grow, grow, World.drewN]
  simp
  apply Array.ext'
  simp
theorem grow4 (w : World) (q : Nat) (a b c : Obj) (os : Array Obj) : (grow ((((w.alloc a).alloc b).drew).drewN q) os).alloc c = grow (w.drewN (1 + q)) (#[a, b] ++ os ++ #[c]) := by
  show (grow ((((w.alloc a).alloc b).drewN 1).drewN q) os).alloc c = _
  simp only [alloc_eq_grow, grow, World.drewN]
  simp [Nat.add_assoc]
  apply Array.ext'
  simp
theorem boxU2 (w : World) (d e : Du) (W : World) (hW : W = (w.alloc (.cells #[.int .i64 d.m, .int .i64 d.c, .int .i64 d.t, .int .i64 d.n] 39)).alloc (.cells #[.int .i64 e.m, .int .i64 e.c, .int .i64 e.t, .int .i64 e.n] 39)) :
    (W.drew.cell? ⟨w.heap.size, 0, none⟩ = some (.int .i64 d.m) ∧ W.drew.cell? ⟨w.heap.size, 1, none⟩ = some (.int .i64 d.c) ∧ W.drew.cell? ⟨w.heap.size, 2, none⟩ = some (.int .i64 d.t) ∧ W.drew.cell? ⟨w.heap.size, 3, none⟩ = some (.int .i64 d.n)) ∧
    (W.drew.cell? ⟨w.heap.size + 1, 0, none⟩ = some (.int .i64 e.m) ∧ W.drew.cell? ⟨w.heap.size + 1, 1, none⟩ = some (.int .i64 e.c) ∧ W.drew.cell? ⟨w.heap.size + 1, 2, none⟩ = some (.int .i64 e.t) ∧ W.drew.cell? ⟨w.heap.size + 1, 3, none⟩ = some (.int .i64 e.n)) ∧ W.drew.heap.size = w.heap.size + 1 + 1 := by
  subst hW
  have h2 := new_two w (.cells #[.int .i64 d.m, .int .i64 d.c, .int .i64 d.t, .int .i64 d.n] 39) (.cells #[.int .i64 e.m, .int .i64 e.c, .int .i64 e.t, .int .i64 e.n] 39)
  have h1 : ((w.alloc (.cells #[.int .i64 d.m, .int .i64 d.c, .int .i64 d.t, .int .i64 d.n] 39)).alloc (.cells #[.int .i64 e.m, .int .i64 e.c, .int .i64 e.t, .int .i64 e.n] 39)).heap[w.heap.size]? = some (.cells #[.int .i64 d.m, .int .i64 d.c, .int .i64 d.t, .int .i64 d.n] 39 (0, 0)) := (Below.heap_alloc _ _ _ (by simp)).trans (heap_alloc_new w _)
  refine ⟨⟨?_, ?_, ?_, ?_⟩, ⟨?_, ?_, ?_, ?_⟩, by show (World.alloc _ _).heap.size = _; simp⟩
  · exact obj_cell (w := World.drew _) h1 rfl
  · exact obj_cell (w := World.drew _) h1 rfl
  · exact obj_cell (w := World.drew _) h1 rfl
  · exact obj_cell (w := World.drew _) h1 rfl
  · exact obj_cell (w := World.drew _) h2 rfl
  · exact obj_cell (w := World.drew _) h2 rfl
  · exact obj_cell (w := World.drew _) h2 rfl
  · exact obj_cell (w := World.drew _) h2 rfl

set_option maxHeartbeats 1000000 in
set_option maxRecDepth 100000 in
theorem byAccount_any (d e : Du) (w : World) : Calls Tryz.prog 67 #[d.val, e.val] w fun f w' => f = .returned (.int .i64 (byAcc d e)) ∧ ∃ q os, w' = grow (w.drewN q) os := by
  have hc1 := fun W => Tryz.cmp_Compare_int d.m e.m W
  have hc2 := fun W => Tryz.cmp_Compare_int d.c e.c W
  obtain ⟨W, hW⟩ : ∃ W, W = (w.alloc (.cells #[.int .i64 d.m, .int .i64 d.c, .int .i64 d.t, .int .i64 d.n] 39)).alloc (.cells #[.int .i64 e.m, .int .i64 e.c, .int .i64 e.t, .int .i64 e.n] 39) := ⟨_, rfl⟩
  obtain ⟨⟨a0, a1, -, -⟩, ⟨b0, b1, -, -⟩, hs⟩ := boxU2 w d e W hW
  obtain ⟨W2, hW2⟩ : ∃ W2, W2 = W.drew := ⟨_, rfl⟩
  rw [← hW2] at a0 a1 b0 b1 hs
  unfold byAcc Du.val
  generalize Lib.compareInt d.m e.m = x at *
  generalize Lib.compareInt d.c e.c = y at *
  go_enter Tryz.func67, Tryz.ntmps67
  go_wp2_with fail
  rw [← hW]
  replace hW := Lib.hid hW
  refine wp_region_still_tail 10 (by kernel_rfl) (by kernel_rfl) ?_
  change wpStill _ _ W.drew _ _ _
  rw [← hW2]
  replace hW2 := Lib.hid hW2
  simp only [List.take_succ_cons, List.take_zero, List.drop_succ_cons, List.drop_zero]
  repeat still_step
  still_call (hc1 _)
  repeat still_step
  still_call (hc2 _)
  repeat still_step
  refine wpStill_nil ?_
  change wpList _ _ _ _ _ (World.drew _)
  go_wp2_with (first | (go_at_call 66; refine (or_any _ x y _ (by simp) (by simp)).mono ?_; rintro e w' ⟨rfl, rfl⟩))
  go_ret
  exact ⟨rfl, 1, _, by rw [hW.out]; exact grow3 _ _ _ _⟩

set_option maxHeartbeats 1000000 in
set_option maxRecDepth 100000 in
theorem byTick_any (d e : Du) (w : World) : Calls Tryz.prog 36 #[d.val, e.val] w fun f w' => f = .returned (.int .i64 (byTk d e)) ∧ ∃ q os, w' = grow (w.drewN q) os := by
  have hc1 := fun W => Tryz.cmp_Compare_int d.t e.t W
  have hc2 := fun W => byAccount_any d e W
  obtain ⟨W, hW⟩ : ∃ W, W = (w.alloc (.cells #[.int .i64 d.m, .int .i64 d.c, .int .i64 d.t, .int .i64 d.n] 39)).alloc (.cells #[.int .i64 e.m, .int .i64 e.c, .int .i64 e.t, .int .i64 e.n] 39) := ⟨_, rfl⟩
  obtain ⟨⟨a0, a1, a2, a3⟩, ⟨b0, b1, b2, b3⟩, hs⟩ := boxU2 w d e W hW
  obtain ⟨W2, hW2⟩ : ∃ W2, W2 = W.drew := ⟨_, rfl⟩
  rw [← hW2] at a0 a1 a2 a3 b0 b1 b2 b3 hs
  unfold byTk
  unfold Du.val at *
  generalize Lib.compareInt d.t e.t = x at *
  generalize byAcc d e = y at *
  replace hc2 := Lib.hid hc2
  go_enter Tryz.func36, Tryz.ntmps36
  go_wp2_with fail
  rw [← hW]
  replace hW := Lib.hid hW
  refine wp_region_still_tail 7 (by kernel_rfl) (by kernel_rfl) ?_
  change wpStill _ _ W.drew _ _ _
  rw [← hW2]
  replace hW2 := Lib.hid hW2
  simp only [List.take_succ_cons, List.take_zero, List.drop_succ_cons, List.drop_zero]
  repeat still_step
  still_call (hc1 _)
  repeat still_step
  refine wpStill_nil ?_
  change wpList _ _ _ _ _ (World.drew W)
  rw [← hW2.out]
  go_wp2_with (first | (go_at_call 67; refine (hc2.out _).mono ?_; rintro e w' ⟨rfl, q, os, hgw⟩; replace hgw := Lib.hid hgw) | (go_at_call 66; refine (or_any _ x y _ (by simp) (by simp)).mono ?_; rintro e w' ⟨rfl, rfl⟩))
  go_ret
  exact ⟨rfl, 1 + q, _, by rw [hgw.out, hW2.out, hW.out]; exact grow4 _ _ _ _ _ _⟩
end Go.Proofs.YthocnlalahknjaaGreat.Dd
