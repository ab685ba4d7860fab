/- Dues as plain data; cmp.Or of two; the two ways in which dues are put in order.
  Dues that are read: wrong ones, those of the first one's member and currency.
  Of dues those of the first one's member and currency: the contract of ofFirst; payments; dues put in order. -/
import Derived.Test.YthocnlalahknjaaGreatShelf
import Derived.Test.YthocnlalahknjaaGreatQDb
import Derived.StillTailTactics
import Derived.Shelf.Sort.Plain
import Derived.Test.YthocnlalahknjaaGreatShelfB
import Derived.Test.YthocnlalahknjaaGreatB2
namespace Go.Proofs.YthocnlalahknjaaGreat.Dd
open Go.RowKit Go.Maps Go.Sort
set_option linter.unusedVariables false

/-- a due -/
structure Du where
  m : Int
  c : Int
  t : Int
  n : Int
deriving DecidableEq, Inhabited
def Du.cs (d : Du) : List Value := [.int .i64 d.m, .int .i64 d.c, .int .i64 d.t, .int .i64 d.n]
def Du.val (d : Du) : Value := .agg #[.int .i64 d.m, .int .i64 d.c, .int .i64 d.t, .int .i64 d.n]
theorem Du.cs_len (d : Du) : d.cs.length = 4 := rfl
theorem Du.cs_one (d : Du) : ∀ u ∈ d.cs, u.oneCell' = true := by
  intro u hu; unfold Du.cs at hu; simp at hu; rcases hu with rfl | rfl | rfl | rfl <;> rfl
def cellsU (l : List Du) : List Value := l.flatMap Du.cs
theorem cellsU_len (l : List Du) : (cellsU l).length = l.length * 4 := by
  unfold cellsU
  induction l with
  | nil => rfl
  | cons x l ih => rw [List.flatMap_cons, List.length_append, ih, Du.cs_len]; simp; omega
theorem cellsU_app (l : List Du) (e : Du) : cellsU (l ++ [e]) = cellsU l ++ e.cs := by unfold cellsU; simp
theorem cellsU_app2 (l l2 : List Du) : cellsU (l ++ l2) = cellsU l ++ cellsU l2 := by unfold cellsU; simp
theorem cellsU_cons (e : Du) (l : List Du) : cellsU (e :: l) = e.cs ++ cellsU l := by unfold cellsU; simp
theorem cellsU_at : ∀ {l : List Du} {i : Nat} (h : i < l.length) (j : Nat), j < 4 → (cellsU l)[i * 4 + j]? = l[i].cs[j]?
  | [], i, h, j, _ => by simp at h
  | x :: r, 0, h, j, hj => by rw [cellsU_cons, Nat.zero_mul, Nat.zero_add, List.getElem?_append_left (by rw [Du.cs_len]; exact hj)]; rfl
  | x :: r, i + 1, h, j, hj => by
    rw [cellsU_cons, List.getElem?_append_right (by rw [Du.cs_len]; omega), Du.cs_len]
    have e : (i + 1) * 4 + j - 4 = i * 4 + j := by omega
    rw [e, cellsU_at (by simpa using h) j hj]; rfl

/-- of two numbers the first one that isn't 0 -/
def orOf (x y : Int) : Int := if x = 0 then y else x
/-- by member, then by currency -/
def byAcc (d e : Du) : Int := orOf (Lib.compareInt d.m e.m) (Lib.compareInt d.c e.c)
/-- by tick, then by both -/
def byTk (d e : Du) : Int := orOf (Lib.compareInt d.t e.t) (byAcc d e)

set_option maxHeartbeats 1000000 in
set_option maxRecDepth 100000 in
theorem or_any (g : Nat) (x y : Int) (w : World) (h0 : w.cell? ⟨g, 0, none⟩ = some (.int .i64 x)) (h1 : w.cell? ⟨g, 1, none⟩ = some (.int .i64 y)) :
    Calls Tryz.prog 66 #[.slice (some ⟨g, 0, none⟩) 2 2] w fun e w' => e = .returned (.int .i64 (orOf x y)) ∧ w' = w := by
  obtain ⟨R, hR⟩ : ∃ R, R = orOf x y := ⟨_, rfl⟩
  rw [← hR]
  unfold orOf at hR
  replace hR := Lib.hid hR
  go_enter Tryz.func66, Tryz.ntmps66
  go_wp2_with fail
  go_loopw [8] (fun i wr => ∃ k : Nat, k ≤ 2 ∧ i = .int .i64 (k : Int) ∧ Hid (wr = w ∧ (0 < k → x = 0) ∧ (1 < k → y = 0))) (fun i _ => 2 - (intOf i).toNat)
  case atStart => exact ⟨0, by omega, rfl, Lib.hid ⟨rfl, fun h => by omega, fun h => by omega⟩⟩
  case round =>
    obtain ⟨k, hk, rfl, hS⟩ := hrel
    obtain ⟨rfl, hx, hy⟩ := hS.out
    obtain rfl | rfl | rfl : k = 0 ∨ k = 1 ∨ k = 2 := by omega
    · by_cases hx : x = 0
      · have q : (x != 0) = false := by simpa using hx
        replace hx := Lib.hid hx
        go_wp2_with fail
        go_roundw
        case rel => exact ⟨1, by omega, by go_num, Lib.hid ⟨(by first | rfl | trivial), fun _ => hx.out, fun h => by omega⟩⟩
        case measure => simp [intOf]
      · have q : (x != 0) = true := by simpa using hx
        have e : R = x := by rw [hR.out, if_neg hx]
        replace hx := Lib.hid hx
        replace e := Lib.hid e
        go_wp2_with fail
        go_ret
        exact ⟨by rw [e.out]; rfl, (by first | rfl | trivial)⟩
    · have hx0 := hx (by omega)
      have e : R = y := by rw [hR.out, if_pos hx0]
      by_cases hy : y = 0
      · have q : (y != 0) = false := by simpa using hy
        replace hy := Lib.hid hy
        replace e := Lib.hid e
        replace hx0 := Lib.hid hx0
        go_wp2_with fail
        go_roundw
        case rel => exact ⟨2, by omega, by go_num, Lib.hid ⟨(by first | rfl | trivial), fun _ => hx0.out, fun _ => hy.out⟩⟩
        case measure => simp [intOf]
      · have q : (y != 0) = true := by simpa using hy
        replace hy := Lib.hid hy
        replace e := Lib.hid e
        replace hx0 := Lib.hid hx0
        go_wp2_with fail
        go_ret
        exact ⟨by rw [e.out]; rfl, (by first | rfl | trivial)⟩
    · have e : R = 0 := by rw [hR.out, if_pos (hx (by omega)), hy (by omega)]
      replace e := Lib.hid e
      replace hx := Lib.hid hx
      replace hy := Lib.hid hy
      go_wp2_with fail
      go_ret
      exact ⟨by rw [e.out]; rfl, (by first | rfl | trivial)⟩

theorem grow3 (w : World) (a b c : Obj) : (((w.alloc a).alloc b).alloc c).drew = grow (w.drewN 1) #[a, b, c] := by
  show (((w.alloc a).alloc b).alloc c).drewN 1 = _
  simp only [alloc_eq_grow, grow, World.drewN]
  simp
  apply Array.ext'
  simp
theorem grow4 (w : World) (q : Nat) (a b c : Obj) (os : Array Obj) : (grow ((((w.alloc a).alloc b).drew).drewN q) os).alloc c = grow (w.drewN (1 + q)) (#[a, b] ++ os ++ #[c]) := by
  show (grow ((((w.alloc a).alloc b).drewN 1).drewN q) os).alloc c = _
  simp only [alloc_eq_grow, grow, World.drewN]
  simp [Nat.add_assoc]
  apply Array.ext'
  simp
theorem boxU2 (w : World) (d e : Du) (W : World) (hW : W = (w.alloc (.cells #[.int .i64 d.m, .int .i64 d.c, .int .i64 d.t, .int .i64 d.n] 39)).alloc (.cells #[.int .i64 e.m, .int .i64 e.c, .int .i64 e.t, .int .i64 e.n] 39)) :
    (W.drew.cell? ⟨w.heap.size, 0, none⟩ = some (.int .i64 d.m) ∧ W.drew.cell? ⟨w.heap.size, 1, none⟩ = some (.int .i64 d.c) ∧ W.drew.cell? ⟨w.heap.size, 2, none⟩ = some (.int .i64 d.t) ∧ W.drew.cell? ⟨w.heap.size, 3, none⟩ = some (.int .i64 d.n)) ∧
    (W.drew.cell? ⟨w.heap.size + 1, 0, none⟩ = some (.int .i64 e.m) ∧ W.drew.cell? ⟨w.heap.size + 1, 1, none⟩ = some (.int .i64 e.c) ∧ W.drew.cell? ⟨w.heap.size + 1, 2, none⟩ = some (.int .i64 e.t) ∧ W.drew.cell? ⟨w.heap.size + 1, 3, none⟩ = some (.int .i64 e.n)) ∧ W.drew.heap.size = w.heap.size + 1 + 1 := by
  subst hW
  have h2 := new_two w (.cells #[.int .i64 d.m, .int .i64 d.c, .int .i64 d.t, .int .i64 d.n] 39) (.cells #[.int .i64 e.m, .int .i64 e.c, .int .i64 e.t, .int .i64 e.n] 39)
  have h1 : ((w.alloc (.cells #[.int .i64 d.m, .int .i64 d.c, .int .i64 d.t, .int .i64 d.n] 39)).alloc (.cells #[.int .i64 e.m, .int .i64 e.c, .int .i64 e.t, .int .i64 e.n] 39)).heap[w.heap.size]? = some (.cells #[.int .i64 d.m, .int .i64 d.c, .int .i64 d.t, .int .i64 d.n] 39 (0, 0)) := (Below.heap_alloc _ _ _ (by simp)).trans (heap_alloc_new w _)
  refine ⟨⟨?_, ?_, ?_, ?_⟩, ⟨?_, ?_, ?_, ?_⟩, by show (World.alloc _ _).heap.size = _; simp⟩
  · exact obj_cell (w := World.drew _) h1 rfl
  · exact obj_cell (w := World.drew _) h1 rfl
  · exact obj_cell (w := World.drew _) h1 rfl
  · exact obj_cell (w := World.drew _) h1 rfl
  · exact obj_cell (w := World.drew _) h2 rfl
  · exact obj_cell (w := World.drew _) h2 rfl
  · exact obj_cell (w := World.drew _) h2 rfl
  · exact obj_cell (w := World.drew _) h2 rfl

set_option maxHeartbeats 1000000 in
set_option maxRecDepth 100000 in
theorem byAccount_any (d e : Du) (w : World) : Calls Tryz.prog 67 #[d.val, e.val] w fun f w' => f = .returned (.int .i64 (byAcc d e)) ∧ ∃ q os, w' = grow (w.drewN q) os := by
  have hc1 := fun W => Tryz.cmp_Compare_int d.m e.m W
  have hc2 := fun W => Tryz.cmp_Compare_int d.c e.c W
  obtain ⟨W, hW⟩ : ∃ W, W = (w.alloc (.cells #[.int .i64 d.m, .int .i64 d.c, .int .i64 d.t, .int .i64 d.n] 39)).alloc (.cells #[.int .i64 e.m, .int .i64 e.c, .int .i64 e.t, .int .i64 e.n] 39) := ⟨_, rfl⟩
  obtain ⟨⟨a0, a1, -, -⟩, ⟨b0, b1, -, -⟩, hs⟩ := boxU2 w d e W hW
  obtain ⟨W2, hW2⟩ : ∃ W2, W2 = W.drew := ⟨_, rfl⟩
  rw [← hW2] at a0 a1 b0 b1 hs
  unfold byAcc Du.val
  generalize Lib.compareInt d.m e.m = x at *
  generalize Lib.compareInt d.c e.c = y at *
  go_enter Tryz.func67, Tryz.ntmps67
  go_wp2_with fail
  rw [← hW]
  replace hW := Lib.hid hW
  refine wp_region_still_tail 10 (by kernel_rfl) (by kernel_rfl) ?_
  change wpStill _ _ W.drew _ _ _
  rw [← hW2]
  replace hW2 := Lib.hid hW2
  simp only [List.take_succ_cons, List.take_zero, List.drop_succ_cons, List.drop_zero]
  repeat still_step
  still_call (hc1 _)
  repeat still_step
  still_call (hc2 _)
  repeat still_step
  refine wpStill_nil ?_
  change wpList _ _ _ _ _ (World.drew _)
  go_wp2_with (first | (go_at_call 66; refine (or_any _ x y _ (by simp) (by simp)).mono ?_; rintro e w' ⟨rfl, rfl⟩))
  go_ret
  exact ⟨rfl, 1, _, by rw [hW.out]; exact grow3 _ _ _ _⟩

set_option maxHeartbeats 1000000 in
set_option maxRecDepth 100000 in
theorem byTick_any (d e : Du) (w : World) : Calls Tryz.prog 36 #[d.val, e.val] w fun f w' => f = .returned (.int .i64 (byTk d e)) ∧ ∃ q os, w' = grow (w.drewN q) os := by
  have hc1 := fun W => Tryz.cmp_Compare_int d.t e.t W
  have hc2 := fun W => byAccount_any d e W
  obtain ⟨W, hW⟩ : ∃ W, W = (w.alloc (.cells #[.int .i64 d.m, .int .i64 d.c, .int .i64 d.t, .int .i64 d.n] 39)).alloc (.cells #[.int .i64 e.m, .int .i64 e.c, .int .i64 e.t, .int .i64 e.n] 39) := ⟨_, rfl⟩
  obtain ⟨⟨a0, a1, a2, a3⟩, ⟨b0, b1, b2, b3⟩, hs⟩ := boxU2 w d e W hW
  obtain ⟨W2, hW2⟩ : ∃ W2, W2 = W.drew := ⟨_, rfl⟩
  rw [← hW2] at a0 a1 a2 a3 b0 b1 b2 b3 hs
  unfold byTk
  unfold Du.val at *
  generalize Lib.compareInt d.t e.t = x at *
  generalize byAcc d e = y at *
  replace hc2 := Lib.hid hc2
  go_enter Tryz.func36, Tryz.ntmps36
  go_wp2_with fail
  rw [← hW]
  replace hW := Lib.hid hW
  refine wp_region_still_tail 7 (by kernel_rfl) (by kernel_rfl) ?_
  change wpStill _ _ W.drew _ _ _
  rw [← hW2]
  replace hW2 := Lib.hid hW2
  simp only [List.take_succ_cons, List.take_zero, List.drop_succ_cons, List.drop_zero]
  repeat still_step
  still_call (hc1 _)
  repeat still_step
  refine wpStill_nil ?_
  change wpList _ _ _ _ _ (World.drew W)
  rw [← hW2.out]
  go_wp2_with (first | (go_at_call 67; refine (hc2.out _).mono ?_; rintro e w' ⟨rfl, q, os, hgw⟩; replace hgw := Lib.hid hgw) | (go_at_call 66; refine (or_any _ x y _ (by simp) (by simp)).mono ?_; rintro e w' ⟨rfl, rfl⟩))
  go_ret
  exact ⟨rfl, 1 + q, _, by rw [hgw.out, hW2.out, hW.out]; exact grow4 _ _ _ _ _ _⟩
end Go.Proofs.YthocnlalahknjaaGreat.Dd
namespace Go.Proofs.YthocnlalahknjaaGreat.Dd
open Go.RowKit Go.Maps Go.Shelf Go.Sort
set_option linter.unusedVariables false

/-- dues that are read -/
def USeq (w : World) (v : Value) (l : List Du) : Prop :=
  ∃ a cap, v = .slice a l.length cap ∧ l.length ≤ cap ∧ (l = [] ∨ ∃ b off, a = some ⟨b, off, none⟩ ∧ b < w.heap.size ∧ ∀ i (h : i < l.length) j u, l[i].cs[j]? = some u → w.cell? ⟨b, off + i * 4 + j, none⟩ = some u)
theorem USeq.kept {w w' : World} {v : Value} {l : List Du} (h : USeq w v l) (hb : Below w.heap.size w w') : USeq w' v l := by
  obtain ⟨a, cap, e, hc, h0 | ⟨b, off, e2, hlt, hall⟩⟩ := h
  · exact ⟨a, cap, e, hc, .inl h0⟩
  · exact ⟨a, cap, e, hc, .inr ⟨b, off, e2, Nat.lt_of_lt_of_le hlt hb.size, fun i hi j u hu => (hb.cell (p := ⟨b, off + i * 4 + j, none⟩) hlt).trans (hall i hi j u hu)⟩⟩

/-- there can be no such due -/
def Du.wrong (d : Du) : Bool := decide (d.m < 0) || decide (d.c < 0) || decide (d.n < 1)
set_option maxHeartbeats 1000000 in
set_option maxRecDepth 100000 in
theorem wrong_any (d : Du) (w : World) : Calls Tryz.prog 39 #[d.val] w fun e w' => e = .returned (.bool d.wrong) ∧ Below w.heap.size w w' := by
  have em : d.wrong = (decide (d.m < 0) || decide (d.c < 0) || decide (d.n < 1)) := rfl
  unfold Du.val
  by_cases a1 : d.m < 0 <;> by_cases a2 : d.c < 0 <;> by_cases a3 : d.n < 1
  all_goals
    go_enter Tryz.func39, Tryz.ntmps39
    go_wp2
    go_ret
    exact ⟨by simp [em, a1, a2, a3], (Below.refl _ _).alloc (Nat.le_refl _) _⟩
theorem pred39 (w : World) : PredBelow Tryz.prog 39 #[] (fun x : Du => .agg x.cs.toArray) Du.wrong w := fun W x hb =>
  (wrong_any x W).mono fun e w' h => ⟨h.1, hb.trans (h.2.mono hb.size)⟩
theorem eg39 : ∀ args w, (callFunc 39 args).run Tryz.prog w = .ok (.enter 39 args) w := enters_of Tryz.func39 (by kernel_rfl) rfl
theorem eg69 : ∀ args w, (callFunc 69 args).run Tryz.prog w = .ok (.enter 69 args) w := enters_of Tryz.func69 (by kernel_rfl) rfl
theorem eg70 : ∀ args w, (callFunc 70 args).run Tryz.prog w = .ok (.enter 70 args) w := enters_of Tryz.func70 (by kernel_rfl) rfl

set_option maxHeartbeats 1000000 in
set_option maxRecDepth 100000 in
theorem idx_nil (a : Option Addr) (cap : Nat) (f : Value) (w : World) : Calls Tryz.prog 69 #[.slice a 0 cap, f] w fun e w' => e = .returned (.int .i64 (-1)) ∧ w' = w := by
  go_enter Tryz.func69, Tryz.ntmps69
  go_wp2_with fail
  go_loopw [8] (fun i wr => i = .int .i64 0 ∧ Hid (wr = w)) (fun i _ => 0)
  case atStart => exact ⟨rfl, Lib.hid rfl⟩
  case round =>
    obtain ⟨rfl, hw⟩ := hrel
    go_wp2_with fail
    go_ret
    exact ⟨rfl, hw.out⟩
set_option maxHeartbeats 1000000 in
set_option maxRecDepth 100000 in
theorem anyWrong (v : Value) (l : List Du) (w : World) (h : USeq w v l) (hl : l.length ≤ 1000000) : Calls Tryz.prog 38 #[v, .func (.func 39) #[] #[]] w fun e w' => e = .returned (.bool (l.any Du.wrong)) ∧ Below w.heap.size w w' := by
  obtain ⟨a, cap, rfl, hc, rfl | ⟨b, off, rfl, hlt, hall⟩⟩ := h
  · have h0 := idx_nil a cap (.func (.func 39) #[] #[]) w
    show Calls Tryz.prog 38 #[.slice a 0 cap, .func (.func 39) #[] #[]] w fun e w' => e = .returned (.bool false) ∧ Below w.heap.size w w'
    go_enter Tryz.func38, Tryz.ntmps38
    go_wp2_with (go_at_call 69; refine h0.mono ?_; rintro e w' ⟨rfl, rfl⟩)
    go_ret
    exact ⟨rfl, Below.refl _ _⟩
  · have h0 := AnyQ.slices_ContainsFunc Tryz.conU 4 Tryz.isAgg39 Tryz.sizeOf39 Du.cs (fun _ => rfl) Du.wrong 39 #[] eg39 b off l.length cap l w (pred39 w) (Nat.le_refl _) (by omega) hlt
      (fun j hj i u hu => hall j hj i u (by rwa [getElem!_pos l j hj] at hu))
    rw [List.take_length] at h0
    exact h0

/-- of the same member and currency -/
def sameK (d e : Du) : Bool := decide (byAcc e d = 0)
theorem orOf_zero {x y : Int} : orOf x y = 0 ↔ x = 0 ∧ y = 0 := by unfold orOf; split <;> simp_all
theorem cmp_zero {x y : Int} : Lib.compareInt x y = 0 ↔ x = y := by unfold Lib.compareInt; split <;> (try split) <;> omega
theorem sameK_iff {d e : Du} : sameK d e = true ↔ e.m = d.m ∧ e.c = d.c := by
  unfold sameK byAcc; rw [decide_eq_true_iff, orOf_zero, cmp_zero, cmp_zero]
/-- how many, from the first one on, are of its member and currency -/
def grpLen : List Du → Nat
  | [] => 0
  | d :: r => ((d :: r).takeWhile (sameK d)).length
theorem grpLen_le (l : List Du) : grpLen l ≤ l.length := by
  cases l with
  | nil => exact Nat.le_refl _
  | cons d r => exact (List.takeWhile_sublist (sameK d)).length_le
theorem grpLen_pos {d : Du} {r : List Du} : 1 ≤ grpLen (d :: r) := by
  show 1 ≤ ((d :: r).takeWhile (sameK d)).length
  rw [List.takeWhile_cons, if_pos (sameK_iff.2 ⟨rfl, rfl⟩), List.length_cons]; omega
theorem take_while_idx (p : Du → Bool) (l : List Du) : (Lib.idxBy (fun _ y => !p y) l default < 0 → (l.takeWhile p).length = l.length) ∧ (0 ≤ Lib.idxBy (fun _ y => !p y) l default → ((l.takeWhile p).length : Int) = Lib.idxBy (fun _ y => !p y) l default) := by
  have key : ∀ (l : List Du) (i : Nat), (Lib.idxByFrom (fun _ y => !p y) default l i < 0 → (l.takeWhile p).length = l.length) ∧ (0 ≤ Lib.idxByFrom (fun _ y => !p y) default l i → ((i + (l.takeWhile p).length : Nat) : Int) = Lib.idxByFrom (fun _ y => !p y) default l i) := by
    intro l
    induction l with
    | nil => intro i; simp [Lib.idxByFrom]
    | cons x r ih =>
      intro i
      unfold Lib.idxByFrom
      by_cases hx : p x = true
      · have h2 := ih (i + 1)
        rw [List.takeWhile_cons, if_pos hx]
        simp only [hx, Bool.not_true, Bool.false_eq_true, if_false, List.length_cons]
        exact ⟨fun h => by have := h2.1 h; omega, fun h => by have := h2.2 h; omega⟩
      · have hx' : p x = false := by simpa using hx
        rw [List.takeWhile_cons_of_neg (by simp [hx'])]
        simp only [hx', Bool.not_false, if_true, List.length_nil]
        exact ⟨fun h => by omega, fun h => by omega⟩
  have := key l 0
  simpa [Lib.idxBy] using this

theorem below_growN {B : Nat} {w W : World} (h : Below B w W) (q : Nat) (os : Array Obj) (hB : B ≤ w.heap.size := by omega) : Below B w (grow (W.drewN q) os) :=
  ⟨h.os, h.tape, h.output, by simp [grow]; have := h.size; omega, fun j hj => by
    show (W.heap ++ os)[j]? = w.heap[j]?
    rw [Array.getElem?_append_left (by have := h.size; omega)]; exact h.block j hj⟩
set_option maxHeartbeats 1000000 in
set_option maxRecDepth 100000 in
/-- the closure by which the others are found -/
theorem other_any (e d : Du) (B b off n cap : Nat) (w : World) (hB : w.cell? ⟨B, 0, none⟩ = some (.slice (some ⟨b, off, none⟩) n cap)) (hn : 0 < n) (hn2 : n ≤ 1000000)
    (hd : ∀ j u, d.cs[j]? = some u → w.cell? ⟨b, off + j, none⟩ = some u) (hlb : b < w.heap.size) (hlB : B < w.heap.size) :
    Calls Tryz.prog 70 #[e.val, .pointer (some ⟨B, 0, none⟩)] w fun f w' => f = .returned (.bool (!sameK d e)) ∧ Below w.heap.size w w' := by
  have hc := fun W => byAccount_any e d W
  have hq : (!sameK d e) = (byAcc e d != 0) := by unfold sameK; rw [Bool.eq_iff_iff]; simp
  rw [hq]
  have d0 := hd 0 _ rfl
  have d1 := hd 1 _ rfl
  have d2 := hd 2 _ rfl
  have d3 := hd 3 _ rfl
  rw [Nat.add_zero] at d0
  clear hd hq
  obtain ⟨W, hW⟩ : ∃ W, W = w.alloc (.cells #[.int .i64 e.m, .int .i64 e.c, .int .i64 e.t, .int .i64 e.n] 39) := ⟨_, rfl⟩
  have hbW : Below w.heap.size w W := by rw [hW]; exact (Below.refl _ _).alloc (Nat.le_refl _) _
  have hnew : W.heap[w.heap.size]? = some (.cells #[.int .i64 e.m, .int .i64 e.c, .int .i64 e.t, .int .i64 e.n] 39 (0, 0)) := by rw [hW]; exact heap_alloc_new w _
  obtain ⟨W2, hW2⟩ : ∃ W2, W2 = W.drew := ⟨_, rfl⟩
  have k0 : W2.cell? ⟨w.heap.size, 0, none⟩ = some (.int .i64 e.m) := by rw [hW2]; exact obj_cell (w := World.drew _) hnew rfl
  have k1 : W2.cell? ⟨w.heap.size, 1, none⟩ = some (.int .i64 e.c) := by rw [hW2]; exact obj_cell (w := World.drew _) hnew rfl
  have k2 : W2.cell? ⟨w.heap.size, 2, none⟩ = some (.int .i64 e.t) := by rw [hW2]; exact obj_cell (w := World.drew _) hnew rfl
  have k3 : W2.cell? ⟨w.heap.size, 3, none⟩ = some (.int .i64 e.n) := by rw [hW2]; exact obj_cell (w := World.drew _) hnew rfl
  have hb2 : Below w.heap.size w W2 := by rw [hW2]; exact hbW.drew
  replace hB := (hb2.cell (p := ⟨B, 0, none⟩) hlB).trans hB
  replace d0 := (hb2.cell (p := ⟨b, off, none⟩) hlb).trans d0
  replace d1 := (hb2.cell (p := ⟨b, off + 1, none⟩) hlb).trans d1
  replace d2 := (hb2.cell (p := ⟨b, off + 2, none⟩) hlb).trans d2
  replace d3 := (hb2.cell (p := ⟨b, off + 3, none⟩) hlb).trans d3
  clear hnew hbW
  unfold Du.val at *
  generalize byAcc e d = y at *
  have hnz : (0 : Int) < (n : Int) := by omega
  replace hc := Lib.hid hc
  replace hb2 := Lib.hid hb2
  go_enter Tryz.func70, Tryz.ntmps70
  go_wp2_with fail
  rw [← hW]
  replace hW := Lib.hid hW
  refine wp_region_still_tail 4 (by kernel_rfl) (by kernel_rfl) ?_
  change wpStill _ _ W.drew _ _ _
  rw [← hW2]
  replace hW2 := Lib.hid hW2
  simp only [List.take_succ_cons, List.take_zero, List.drop_succ_cons, List.drop_zero]
  repeat still_step
  refine wpStill_nil ?_
  change wpList _ _ _ _ _ (World.drew W)
  rw [← hW2.out]
  go_wp2_with (first | (go_at_call 67; refine (hc.out _).mono ?_; rintro e w' ⟨rfl, q, os, hgw⟩; replace hgw := Lib.hid hgw))
  go_ret
  refine ⟨rfl, ?_⟩
  rw [hgw.out]
  exact below_growN hb2.out q os
end Go.Proofs.YthocnlalahknjaaGreat.Dd
namespace Go.Proofs.YthocnlalahknjaaGreat.Dd
open Go.RowKit Go.Maps Go.Shelf
set_option linter.unusedVariables false

theorem pred70 (d : Du) (B b off n cap : Nat) (w : World) (hB : w.cell? ⟨B, 0, none⟩ = some (.slice (some ⟨b, off, none⟩) n cap)) (hn : 0 < n) (hn2 : n ≤ 1000000)
    (hd : ∀ j u, d.cs[j]? = some u → w.cell? ⟨b, off + j, none⟩ = some u) (hlb : b < w.heap.size) (hlB : B < w.heap.size) :
    PredBelow Tryz.prog 70 #[.pointer (some ⟨B, 0, none⟩)] (fun x : Du => .agg x.cs.toArray) (fun e => !sameK d e) w := fun W x hb =>
  (other_any x d B b off n cap W ((hb.cell (p := ⟨B, 0, none⟩) hlB).trans hB) hn hn2 (fun j u hu => (hb.cell (p := ⟨b, off + j, none⟩) hlb).trans (hd j u hu)) (Nat.lt_of_lt_of_le hlb hb.size) (Nat.lt_of_lt_of_le hlB hb.size)).mono
    fun e w' h => ⟨h.1, hb.trans (h.2.mono hb.size)⟩

set_option maxHeartbeats 1000000 in
set_option maxRecDepth 100000 in
theorem ofFirst_any (b off cap : Nat) (d : Du) (r : List Du) (w : World) (hc : (d :: r).length ≤ cap) (hlt : b < w.heap.size) (hl : (d :: r).length ≤ 1000000)
    (hall : ∀ i (h : i < (d :: r).length) j u, (d :: r)[i].cs[j]? = some u → w.cell? ⟨b, off + i * 4 + j, none⟩ = some u) :
    Calls Tryz.prog 41 #[.slice (some ⟨b, off, none⟩) (d :: r).length cap] w fun e w' => e = .returned (.slice (some ⟨b, off, none⟩) (grpLen (d :: r)) cap) ∧ Below w.heap.size w w' := by
  have hk := take_while_idx (sameK d) (d :: r)
  have hkl := grpLen_le (d :: r)
  have hgk : grpLen (d :: r) = ((d :: r).takeWhile (sameK d)).length := rfl
  rw [← hgk] at hk
  have hbb : Below w.heap.size w (w.alloc (.cells #[.slice (some ⟨b, off, none⟩) (d :: r).length cap] 36)) := (Below.refl _ _).alloc (Nat.le_refl _) _
  have h0 := AnyQ.slices_IndexFunc Tryz.idxU 4 Tryz.isAgg39 Tryz.sizeOf39 Du.cs (fun _ => rfl) (fun e => !sameK d e) 70 #[.pointer (some ⟨w.heap.size, 0, none⟩)] eg70 b off (d :: r).length cap (d :: r) (w.alloc (.cells #[.slice (some ⟨b, off, none⟩) (d :: r).length cap] 36))
    (pred70 d w.heap.size b off (d :: r).length cap _ (obj_cell (heap_alloc_new w _) rfl) (by simp) hl (fun j u hu => by
      have := hall 0 (by simp) j u hu
      rw [Nat.zero_mul, Nat.add_zero] at this
      exact (hbb.cell (p := ⟨b, off + j, none⟩) hlt).trans this) (by simp; omega) (by simp)) (Nat.le_refl _) (by omega) (by simp; omega)
    (fun j hj i u hu => (hbb.cell (p := ⟨b, off + j * 4 + i, none⟩) hlt).trans (hall j hj i u (by rwa [getElem!_pos (d :: r) j hj] at hu)))
  rw [List.take_length] at h0
  change Calls Tryz.prog 69 _ _ _ at h0
  clear hall
  generalize Lib.idxBy (fun _ y => !sameK d y) (d :: r) default = ix at h0 hk
  generalize grpLen (d :: r) = k at *
  generalize (d :: r).length = n at *
  clear hgk
  replace h0 := Lib.hid h0
  by_cases hi : ix < 0
  · obtain rfl : k = n := hk.1 hi
    clear hk hkl
    go_enter Tryz.func41, Tryz.ntmps41
    go_wp2_with (go_at_call 69; (with_reducible refine h0.out.mono ?_); rintro e w1 ⟨rfl, hb1⟩; have c0 := (hb1.cell (p := ⟨w.heap.size, 0, none⟩) (by simp)).trans (obj_cell (heap_alloc_new w _) rfl); replace hb1 := Lib.hid hb1)
    go_ret
    exact ⟨rfl, hbb.trans (hb1.out.mono hbb.size)⟩
  · have hik : (k : Int) = ix := hk.2 (by omega)
    subst hik
    clear hk
    have z1 : (k : Int) ≤ (cap : Int) := by omega
    go_enter Tryz.func41, Tryz.ntmps41
    go_wp2_with (go_at_call 69; (with_reducible refine h0.out.mono ?_); rintro e w1 ⟨rfl, hb1⟩; have c0 := (hb1.cell (p := ⟨w.heap.size, 0, none⟩) (by simp)).trans (obj_cell (heap_alloc_new w _) rfl); replace hb1 := Lib.hid hb1)
    go_ret
    exact ⟨rfl, hbb.trans (hb1.out.mono hbb.size)⟩
end Go.Proofs.YthocnlalahknjaaGreat.Dd
