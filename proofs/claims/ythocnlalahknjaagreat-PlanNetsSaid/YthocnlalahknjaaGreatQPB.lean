/- Dues that are read: wrong ones, those of the first one's member and currency. -/
import Derived.Test.YthocnlalahknjaaGreatQPA
import Derived.Test.YthocnlalahknjaaGreatShelfB
import Derived.Test.YthocnlalahknjaaGreatB2
namespace Go.Proofs.YthocnlalahknjaaGreat.Dd
open Go.RowKit Go.Maps Go.Shelf Go.Sort
set_option linter.unusedVariables false

/-- dues that are read -/
def USeq (w : World) (v : Value) (l : List Du) : Prop :=
  ∃ a cap, v = .slice a l.length cap ∧ l.length ≤ cap ∧ (l = [] ∨ ∃ b off, a = some ⟨b, off, none⟩ ∧ b < w.heap.size ∧ ∀ i (h : i < l.length) j u, l[i].cs[j]? = some u → w.cell? ⟨b, off + i * 4 + j, none⟩ = some u)
theorem USeq.kept {w w' : World} {v : Value} {l : List Du} (h : USeq w v l) (hb : Below w.heap.size w w') : USeq w' v l := by
  obtain ⟨a, cap, e, hc, h0 | ⟨b, off, e2, hlt, hall⟩⟩ := h
  · exact ⟨a, cap, e, hc, .inl h0⟩
  · exact ⟨a, cap, e, hc, .inr ⟨b, off, e2, Nat.lt_of_lt_of_le hlt hb.size, fun i hi j u hu => (hb.cell (p := ⟨b, off + i * 4 + j, none⟩) hlt).trans (hall i hi j u hu)⟩⟩

/-- there can be no such due -/
def Du.wrong (d : Du) : Bool := decide (d.m < 0) || decide (d.c < 0) || decide (d.n < 1)
set_option maxHeartbeats 1000000 in
set_option maxRecDepth 100000 in
theorem wrong_any (d : Du) (w : World) : Calls Tryz.prog 39 #[d.val] w fun e w' => e = .returned (.bool d.wrong) ∧ Below w.heap.size w w' := by
  have em : d.wrong = (decide (d.m < 0) || decide (d.c < 0) || decide (d.n < 1)) := rfl
  unfold Du.val
  by_cases a1 : d.m < 0 <;> by_cases a2 : d.c < 0 <;> by_cases a3 : d.n < 1
  all_goals
    go_enter Tryz.func39, Tryz.ntmps39
    go_wp2
    go_ret
    exact ⟨by simp [em, a1, a2, a3], (Below.refl _ _).alloc (Nat.le_refl _) _⟩
theorem pred39 (w : World) : PredBelow Tryz.prog 39 #[] (fun x : Du => .agg x.cs.toArray) Du.wrong w := fun W x hb =>
  (wrong_any x W).mono fun e w' h => ⟨h.1, hb.trans (h.2.mono hb.size)⟩
theorem eg39 : ∀ args w, (callFunc 39 args).run Tryz.prog w = .ok (.enter 39 args) w := enters_of Tryz.func39 (by kernel_rfl) rfl
theorem eg69 : ∀ args w, (callFunc 69 args).run Tryz.prog w = .ok (.enter 69 args) w := enters_of Tryz.func69 (by kernel_rfl) rfl
theorem eg70 : ∀ args w, (callFunc 70 args).run Tryz.prog w = .ok (.enter 70 args) w := enters_of Tryz.func70 (by kernel_rfl) rfl

set_option maxHeartbeats 1000000 in
set_option maxRecDepth 100000 in
theorem idx_nil (a : Option Addr) (cap : Nat) (f : Value) (w : World) : Calls Tryz.prog 69 #[.slice a 0 cap, f] w fun e w' => e = .returned (.int .i64 (-1)) ∧ w' = w := by
  go_enter Tryz.func69, Tryz.ntmps69
  go_wp2_with fail
  go_loopw [8] (fun i wr => i = .int .i64 0 ∧ Hid (wr = w)) (fun i _ => 0)
  case atStart => exact ⟨rfl, Lib.hid rfl⟩
  case round =>
    obtain ⟨rfl, hw⟩ := hrel
    go_wp2_with fail
    go_ret
    exact ⟨rfl, hw.out⟩
set_option maxHeartbeats 1000000 in
set_option maxRecDepth 100000 in
theorem anyWrong (v : Value) (l : List Du) (w : World) (h : USeq w v l) (hl : l.length ≤ 1000000) : Calls Tryz.prog 38 #[v, .func (.func 39) #[] #[]] w fun e w' => e = .returned (.bool (l.any Du.wrong)) ∧ Below w.heap.size w w' := by
  obtain ⟨a, cap, rfl, hc, rfl | ⟨b, off, rfl, hlt, hall⟩⟩ := h
  · have h0 := idx_nil a cap (.func (.func 39) #[] #[]) w
    show Calls Tryz.prog 38 #[.slice a 0 cap, .func (.func 39) #[] #[]] w fun e w' => e = .returned (.bool false) ∧ Below w.heap.size w w'
    go_enter Tryz.func38, Tryz.ntmps38
    go_wp2_with (go_at_call 69; refine h0.mono ?_; rintro e w' ⟨rfl, rfl⟩)
    go_ret
    exact ⟨rfl, Below.refl _ _⟩
  · have h0 := AnyQ.slices_ContainsFunc Tryz.conU 4 Tryz.isAgg39 Tryz.sizeOf39 Du.cs (fun _ => rfl) Du.wrong 39 #[] eg39 b off l.length cap l w (pred39 w) (Nat.le_refl _) (by omega) hlt
      (fun j hj i u hu => hall j hj i u (by rwa [getElem!_pos l j hj] at hu))
    rw [List.take_length] at h0
    exact h0

/-- of the same member and currency -/
def sameK (d e : Du) : Bool := decide (byAcc e d = 0)
theorem orOf_zero {x y : Int} : orOf x y = 0 ↔ x = 0 ∧ y = 0 := by unfold orOf; split <;> simp_all
theorem cmp_zero {x y : Int} : Lib.compareInt x y = 0 ↔ x = y := by unfold Lib.compareInt; split <;> (try split) <;> omega
theorem sameK_iff {d e : Du} : sameK d e = true ↔ e.m = d.m ∧ e.c = d.c := by
  unfold sameK byAcc; rw [decide_eq_true_iff, orOf_zero, cmp_zero, cmp_zero]
/-- how many, from the first one on, are of its member and currency -/
def grpLen : List Du → Nat
  | [] => 0
  | d :: r => ((d :: r).takeWhile (sameK d)).length
theorem grpLen_le (l : List Du) : grpLen l ≤ l.length := by
  cases l with
  | nil => exact Nat.le_refl _
  | cons d r => exact (List.takeWhile_sublist (sameK d)).length_le
theorem grpLen_pos {d : Du} {r : List Du} : 1 ≤ grpLen (d :: r) := by
  show 1 ≤ ((d :: r).takeWhile (sameK d)).length
  rw [List.takeWhile_cons, if_pos (sameK_iff.2 ⟨rfl, rfl⟩), List.length_cons]; omega
theorem take_while_idx (p : Du → Bool) (l : List Du) : (Lib.idxBy (fun _ y => !p y) l default < 0 → (l.takeWhile p).length = l.length) ∧ (0 ≤ Lib.idxBy (fun _ y => !p y) l default → ((l.takeWhile p).length : Int) = Lib.idxBy (fun _ y => !p y) l default) := by
  have key : ∀ (l : List Du) (i : Nat), (Lib.idxByFrom (fun _ y => !p y) default l i < 0 → (l.takeWhile p).length = l.length) ∧ (0 ≤ Lib.idxByFrom (fun _ y => !p y) default l i → ((i + (l.takeWhile p).length : Nat) : Int) = Lib.idxByFrom (fun _ y => !p y) default l i) := by
    intro l
    induction l with
    | nil => intro i; simp [Lib.idxByFrom]
    | cons x r ih =>
      intro i
      unfold Lib.idxByFrom
      by_cases hx : p x = true
      · have h2 := ih (i + 1)
        rw [List.takeWhile_cons, if_pos hx]
        simp only [hx, Bool.not_true, Bool.false_eq_true, if_false, List.length_cons]
        exact ⟨fun h => by have := h2.1 h; omega, fun h => by have := h2.2 h; omega⟩
      · have hx' : p x = false := by simpa using hx
        rw [List.takeWhile_cons_of_neg (by simp [hx'])]
        simp only [hx', Bool.not_false, if_true, List.length_nil]
        exact ⟨fun h => by omega, fun h => by omega⟩
  have := key l 0
  simpa [Lib.idxBy] using this

theorem below_growN {B : Nat} {w W : World} (h : Below B w W) (q : Nat) (os : Array Obj) (hB : B ≤ w.heap.size := by omega) : Below B w (grow (W.drewN q) os) :=
  ⟨h.os, h.tape, h.output, by simp [grow]; have := h.size; omega, fun j hj => by
    show (W.heap ++ os)[j]? = w.heap[j]?
    rw [Array.getElem?_append_left (by have := h.size; omega)]; exact h.block j hj⟩
set_option maxHeartbeats 1000000 in
set_option maxRecDepth 100000 in
/-- the closure by which the others are found -/
theorem other_any (e d : Du) (B b off n cap : Nat) (w : World) (hB : w.cell? ⟨B, 0, none⟩ = some (.slice (some ⟨b, off, none⟩) n cap)) (hn : 0 < n) (hn2 : n ≤ 1000000)
    (hd : ∀ j u, d.cs[j]? = some u → w.cell? ⟨b, off + j, none⟩ = some u) (hlb : b < w.heap.size) (hlB : B < w.heap.size) :
    Calls Tryz.prog 70 #[e.val, .pointer (some ⟨B, 0, none⟩)] w fun f w' => f = .returned (.bool (!sameK d e)) ∧ Below w.heap.size w w' := by
  have hc := fun W => byAccount_any e d W
  have hq : (!sameK d e) = (byAcc e d != 0) := by unfold sameK; rw [Bool.eq_iff_iff]; simp
  rw [hq]
  have d0 := hd 0 _ rfl
  have d1 := hd 1 _ rfl
  have d2 := hd 2 _ rfl
  have d3 := hd 3 _ rfl
  rw [Nat.add_zero] at d0
  clear hd hq
  obtain ⟨W, hW⟩ : ∃ W, W = w.alloc (.cells #[.int .i64 e.m, .int .i64 e.c, .int .i64 e.t, .int .i64 e.n] 39) := ⟨_, rfl⟩
  have hbW : Below w.heap.size w W := by rw [hW]; exact (Below.refl _ _).alloc (Nat.le_refl _) _
  have hnew : W.heap[w.heap.size]? = some (.cells #[.int .i64 e.m, .int .i64 e.c, .int .i64 e.t, .int .i64 e.n] 39 (0, 0)) := by rw [hW]; exact heap_alloc_new w _
  obtain ⟨W2, hW2⟩ : ∃ W2, W2 = W.drew := ⟨_, rfl⟩
  have k0 : W2.cell? ⟨w.heap.size, 0, none⟩ = some (.int .i64 e.m) := by rw [hW2]; exact obj_cell (w := World.drew _) hnew rfl
  have k1 : W2.cell? ⟨w.heap.size, 1, none⟩ = some (.int .i64 e.c) := by rw [hW2]; exact obj_cell (w := World.drew _) hnew rfl
  have k2 : W2.cell? ⟨w.heap.size, 2, none⟩ = some (.int .i64 e.t) := by rw [hW2]; exact obj_cell (w := World.drew _) hnew rfl
  have k3 : W2.cell? ⟨w.heap.size, 3, none⟩ = some (.int .i64 e.n) := by rw [hW2]; exact obj_cell (w := World.drew _) hnew rfl
  have hb2 : Below w.heap.size w W2 := by rw [hW2]; exact hbW.drew
  replace hB := (hb2.cell (p := ⟨B, 0, none⟩) hlB).trans hB
  replace d0 := (hb2.cell (p := ⟨b, off, none⟩) hlb).trans d0
  replace d1 := (hb2.cell (p := ⟨b, off + 1, none⟩) hlb).trans d1
  replace d2 := (hb2.cell (p := ⟨b, off + 2, none⟩) hlb).trans d2
  replace d3 := (hb2.cell (p := ⟨b, off + 3, none⟩) hlb).trans d3
  clear hnew hbW
  unfold Du.val at *
  generalize byAcc e d = y at *
  have hnz : (0 : Int) < (n : Int) := by omega
  replace hc := Lib.hid hc
  replace hb2 := Lib.hid hb2
  go_enter Tryz.func70, Tryz.ntmps70
  go_wp2_with fail
  rw [← hW]
  replace hW := Lib.hid hW
  refine wp_region_still_tail 4 (by kernel_rfl) (by kernel_rfl) ?_
  change wpStill _ _ W.drew _ _ _
  rw [← hW2]
  replace hW2 := Lib.hid hW2
  simp only [List.take_succ_cons, List.take_zero, List.drop_succ_cons, List.drop_zero]
  repeat still_step
  refine wpStill_nil ?_
  change wpList _ _ _ _ _ (World.drew W)
  rw [← hW2.out]
  go_wp2_with (first | (go_at_call 67; refine (hc.out _).mono ?_; rintro e w' ⟨rfl, q, os, hgw⟩; replace hgw := Lib.hid hgw))
  go_ret
  refine ⟨rfl, ?_⟩
  rw [hgw.out]
  exact below_growN hb2.out q os
end Go.Proofs.YthocnlalahknjaaGreat.Dd
