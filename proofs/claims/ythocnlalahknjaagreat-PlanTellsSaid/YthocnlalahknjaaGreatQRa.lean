/- The reference's book in memory; the contracts of its New, At, May, asked.
  The contracts of the reference's May, asked, set.
  A row of the reference's entries, copied; the contract of the reference's set.
  The contracts of the reference's Settle and Rescind.
  The contract of the reference's Submit: where nothing is turned. -/
import Derived.Test.YthocnlalahknjaaGreatQDc
import Derived.Test.YthocnlalahknjaaGreatQDe
import Derived.BigQuiet
import Derived.Deep.MidRow
namespace Go.Proofs.YthocnlalahknjaaGreat.Dd
open Go.RowKit
set_option linter.unusedVariables false

def En.byA (e : En) : Bool := decide (e.ask = 1) || decide (e.ask = 3)
def En.byB (e : En) : Bool := decide (e.ask = 2) || decide (e.ask = 3)
def En.rcs (e : En) : List Value := [.int .i64 e.d.id, .int .i64 e.d.a, .int .i64 e.d.b, .int .i64 e.d.sc, .int .i64 e.d.bc, .int .i64 e.d.s, .int .i64 e.d.t, .int .i64 e.st, .bool e.byA, .bool e.byB, .int .i64 e.nth]
def En.rval (e : En) : Value := .agg #[.int .i64 e.d.id, .int .i64 e.d.a, .int .i64 e.d.b, .int .i64 e.d.sc, .int .i64 e.d.bc, .int .i64 e.d.s, .int .i64 e.d.t, .int .i64 e.st, .bool e.byA, .bool e.byB, .int .i64 e.nth]
theorem En.rcs_len (e : En) : e.rcs.length = 11 := rfl
theorem En.rcs_one (e : En) : ∀ u ∈ e.rcs, u.oneCell' = true := by
  intro u hu; unfold En.rcs at hu; simp at hu; rcases hu with rfl | rfl | rfl | rfl | rfl | rfl | rfl | rfl | rfl | rfl | rfl <;> rfl
def cellsR (l : List En) : List Value := l.flatMap En.rcs
theorem cellsR_len (l : List En) : (cellsR l).length = l.length * 11 := by
  unfold cellsR
  induction l with
  | nil => rfl
  | cons x l ih => rw [List.flatMap_cons, List.length_append, ih, En.rcs_len]; simp; omega
theorem cellsR_app (l : List En) (e : En) : cellsR (l ++ [e]) = cellsR l ++ e.rcs := by unfold cellsR; simp
theorem cellsR_cons (e : En) (l : List En) : cellsR (e :: l) = e.rcs ++ cellsR l := by unfold cellsR; simp
theorem cellsR_at : ∀ {l : List En} {i : Nat} (h : i < l.length) (j : Nat), j < 11 → (cellsR l)[i * 11 + j]? = l[i].rcs[j]?
  | [], i, h, j, _ => by simp at h
  | x :: r, 0, h, j, hj => by rw [cellsR_cons, Nat.zero_mul, Nat.zero_add, List.getElem?_append_left (by rw [En.rcs_len]; exact hj)]; rfl
  | x :: r, i + 1, h, j, hj => by
    rw [cellsR_cons, List.getElem?_append_right (by rw [En.rcs_len]; omega), En.rcs_len]
    have e : (i + 1) * 11 + j - 11 = i * 11 + j := by omega
    rw [e, cellsR_at (by simpa using h) j hj]; rfl

/-- the reference's book in memory, with its row -/
structure RBv (P : Nat → Prop) (w : World) (rb : Nat) (b : Bk) (v : Value) : Prop where
  obj : w.heap[rb]? = some (.cells #[.int .i64 b.mem, .int .i64 b.cur, v, .int .i64 (b.many : Nat)] 75 (0, 0))
  row : w.ownsRow 0 77 11 v b.l.length (cellsR b.l)
  pg : P rb
  pv : ∀ g, v.ownBlock = some g → P g
def RB (P : Nat → Prop) (w : World) (rb : Nat) (b : Bk) : Prop := ∃ v, RBv P w rb b v
section
variable {P Q F : Nat → Prop} {w w' : World} {rb : Nat} {b : Bk} {v : Value}
theorem RBv.row_obj (h : RBv P w rb b v) {g : Nat} (hg : v.ownBlock = some g) : ∃ cap cur, v = .slice (some ⟨g, 0, none⟩) b.l.length cap ∧ w.heap[g]? = some (.cells cur 77 (0, 0)) := by
  rcases h.row.2 with ⟨rfl, _⟩ | ⟨g', cap, cur, rfl, _, hh, _⟩
  · simp [Value.ownBlock] at hg
  · simp [Value.ownBlock] at hg
    subst hg
    exact ⟨cap, cur, rfl, hh⟩
theorem RBv.nv (h : RBv P w rb b v) : v.ownBlock ≠ some rb := fun e => by
  obtain ⟨cap, cur, _, hh⟩ := h.row_obj e
  have := h.obj.symm.trans hh
  simp at this
theorem RBv.lt (h : RBv P w rb b v) : rb < w.heap.size := obj_lt h.obj
theorem RBv.kept (h : RBv P w rb b v) (hK : Kp F w w') (hF : ∀ j, j < w.heap.size → P j → ¬ F j) : RBv P w' rb b v :=
  ⟨(hK.block rb h.lt (hF rb h.lt h.pg)).trans h.obj, orow_kp h.row hK fun g hg => hF g (World.ownsRow.lt h.row g hg).2 (h.pv g hg), h.pg, h.pv⟩
theorem RBv.weak (h : RBv P w rb b v) (hq : ∀ j, j < w.heap.size → P j → Q j) : RBv Q w rb b v :=
  ⟨h.obj, h.row, hq rb h.lt h.pg, fun g hg => hq g (World.ownsRow.lt h.row g hg).2 (h.pv g hg)⟩
theorem RBv.below (h : RBv P w rb b v) (hb : Below w.heap.size w w') : RBv P w' rb b v := h.kept (Kp.of_below (F := fun _ => False) hb) (fun _ _ _ h => h)
theorem below_rb (h : RB P w rb b) (hb : Below w.heap.size w w') : RB P w' rb b := by obtain ⟨v, h⟩ := h; exact ⟨v, h.below hb⟩
theorem RBv.has (h : RBv P w rb b v) {i : Nat} (hi : i < b.l.length) : ∃ g, v.ownBlock = some g := by
  obtain ⟨g, cap, cur, rfl, _⟩ := orow_some h.row (by omega)
  exact ⟨g, rfl⟩
theorem RBv.cells (h : RBv P w rb b v) {g i : Nat} (hg : v.ownBlock = some g) (hi : i < b.l.length) (j : Nat) (u : Value) (hj : j < 11) (hu : (b.l[i]).rcs[j]? = some u) : w.cell? ⟨g, i * 11 + j, none⟩ = some u :=
  orow_cell h.row hg ((cellsR_at hi j hj).trans hu)
theorem RBv.entry (h : RBv P w rb b v) {i g : Nat} (hi : i < b.l.length) (hg : v.ownBlock = some g) : w.cell? ⟨g, i * 11, none⟩ = some (.int .i64 (b.l[i]).d.id) ∧ w.cell? ⟨g, i * 11 + 1, none⟩ = some (.int .i64 (b.l[i]).d.a) ∧ w.cell? ⟨g, i * 11 + 2, none⟩ = some (.int .i64 (b.l[i]).d.b) ∧ w.cell? ⟨g, i * 11 + 3, none⟩ = some (.int .i64 (b.l[i]).d.sc) ∧ w.cell? ⟨g, i * 11 + 4, none⟩ = some (.int .i64 (b.l[i]).d.bc) ∧ w.cell? ⟨g, i * 11 + 5, none⟩ = some (.int .i64 (b.l[i]).d.s) ∧ w.cell? ⟨g, i * 11 + 6, none⟩ = some (.int .i64 (b.l[i]).d.t) ∧ w.cell? ⟨g, i * 11 + 7, none⟩ = some (.int .i64 (b.l[i]).st) ∧ w.cell? ⟨g, i * 11 + 8, none⟩ = some (.bool (b.l[i]).byA) ∧ w.cell? ⟨g, i * 11 + 9, none⟩ = some (.bool (b.l[i]).byB) ∧ w.cell? ⟨g, i * 11 + 10, none⟩ = some (.int .i64 (b.l[i]).nth) :=
  ⟨h.cells hg hi 0 _ (by omega) rfl, h.cells hg hi 1 _ (by omega) rfl, h.cells hg hi 2 _ (by omega) rfl, h.cells hg hi 3 _ (by omega) rfl, h.cells hg hi 4 _ (by omega) rfl, h.cells hg hi 5 _ (by omega) rfl, h.cells hg hi 6 _ (by omega) rfl, h.cells hg hi 7 _ (by omega) rfl, h.cells hg hi 8 _ (by omega) rfl, h.cells hg hi 9 _ (by omega) rfl, h.cells hg hi 10 _ (by omega) rfl⟩
end
theorem RB.live (rb : Nat) (b : Bk) : Live fun P w => RB P w rb b :=
  ⟨fun ⟨v, h⟩ k hf => ⟨v, h.kept k hf⟩, fun ⟨v, h⟩ hq => ⟨v, h.weak hq⟩⟩
set_option maxHeartbeats 2000000 in
set_option maxRecDepth 100000 in
theorem rnew_no (mem cur : Int) (w : World) (h : newR mem cur = false) : Calls Tryz.prog 23 #[.int .i64 mem, .int .i64 cur] w fun e w' => e = .returned (.tuple #[.pointer none, .int .i64 1]) ∧ w = w' := by
  unfold newR at h
  have hh := of_decide_eq_false h
  clear h
  by_cases a1 : mem < 1
  · clear hh
    go_enter Tryz.func23, Tryz.ntmps23
    go_wp2_with fail
    go_ret2
    exact ⟨rfl, rfl⟩
  · by_cases a2 : 16 < mem
    · clear hh
      go_enter Tryz.func23, Tryz.ntmps23
      go_wp2_with fail
      go_ret2
      exact ⟨rfl, rfl⟩
    · by_cases a3 : cur < 1
      · clear hh
        go_enter Tryz.func23, Tryz.ntmps23
        go_wp2_with fail
        go_ret2
        exact ⟨rfl, rfl⟩
      · have a4 : 8 < cur := by omega
        clear hh
        go_enter Tryz.func23, Tryz.ntmps23
        go_wp2_with fail
        go_ret2
        exact ⟨rfl, rfl⟩
set_option maxHeartbeats 2000000 in
set_option maxRecDepth 100000 in
theorem rnew_yes (P : Nat → Prop) (mem cur : Int) (w : World) (h : newR mem cur = true) (hf : ∀ i, w.heap.size ≤ i → P i) : Calls Tryz.prog 23 #[.int .i64 mem, .int .i64 cur] w fun e w' => ∃ rb, e = .returned (.tuple #[.pointer (some ⟨rb, 0, none⟩), .int .i64 0]) ∧ RB P w' rb ⟨mem, cur, [], 0⟩ ∧ Below w.heap.size w w' ∧ w.heap.size ≤ rb := by
  unfold newR at h
  obtain ⟨a1, a2, a3, a4⟩ := of_decide_eq_true h
  clear h
  have b1 : ¬ mem < 1 := by omega
  have b2 : ¬ 16 < mem := by omega
  have b3 : ¬ cur < 1 := by omega
  have b4 : ¬ 8 < cur := by omega
  go_enter Tryz.func23, Tryz.ntmps23
  go_wp2_with fail
  go_ret2
  exact ⟨w.heap.size, rfl, ⟨.slice none 0 0, heap_alloc_new w _, World.ownsRow_nil _ 0 77 11, hf _ (by omega), fun g hg => by simp [Value.ownBlock] at hg⟩, (Below.refl _ _).alloc (Nat.le_refl _) _, by omega⟩
theorem atL_take {l : List En} {id : Int} {k : Nat} (hk : k < l.length) (hn : atL (l.take k) id = none) : atL (l.take (k + 1)) id = if (l[k]).d.id = id then some k else none := by
  rw [List.take_succ_eq_append_getElem hk, atL_app, hn]
  dsimp only
  split
  · rw [List.length_take, Nat.min_eq_left (by omega)]
  · rfl
theorem atL_pre {l : List En} {id : Int} {k : Nat} (hk : k < l.length) (hn : atL (l.take k) id = none) (he : (l[k]).d.id = id) : atL l id = some k := by
  have h1 := atL_take hk hn
  rw [if_pos he] at h1
  have h2 : l = l.take (k + 1) ++ l.drop (k + 1) := (List.take_append_drop _ _).symm
  have h3 : ∀ (a c : List En) (i : Nat), atL a id = some i → atL (a ++ c) id = some i := by
    intro a c
    induction a with
    | nil => intro i h; simp [atL] at h
    | cons x r ih =>
      intro i h
      rw [List.cons_append]
      unfold atL at h ⊢
      split at h
      · rename_i hx; rw [if_pos hx]; exact h
      · rename_i hx
        rw [if_neg hx]
        obtain ⟨j, hj, rfl⟩ := Option.map_eq_some_iff.1 h
        rw [ih j hj]; rfl
  rw [h2]; exact h3 _ _ _ h1
def atI (o : Option Nat) : Int := match o with | none => -1 | some i => (i : Int)
section
variable {P : Nat → Prop} {w : World} {rb : Nat} {b : Bk} {v : Value}
set_option maxHeartbeats 2000000 in
set_option maxRecDepth 100000 in
theorem at_any (h : RB P w rb b) (id : Int) (hlen : b.l.length ≤ 1000) : Calls Tryz.prog 51 #[.pointer (some ⟨rb, 0, none⟩), .int .i64 id] w fun e w' => e = .returned (.int .i64 (atI (atL b.l id))) ∧ w = w' := by
  obtain ⟨v, h⟩ := h
  have c2 : w.cell? ⟨rb, 2, none⟩ = some v := obj_cell h.obj rfl
  obtain ⟨p, cap, rfl, -, -, -⟩ := orow_shape h.row
  obtain ⟨n, hn⟩ : ∃ n, n = b.l.length := ⟨_, rfl⟩
  have hn1 : n ≤ 1000 := by omega
  rw [← hn] at c2
  obtain ⟨R, hR⟩ : ∃ R, R = atI (atL b.l id) := ⟨_, rfl⟩
  rw [← hR]
  replace h := Lib.hid h
  replace hn := Lib.hid hn
  replace hR := Lib.hid hR
  go_enter Tryz.func51, Tryz.ntmps51
  go_wp2_with fail
  go_loopw [5] (fun i wr => ∃ k : Nat, k ≤ n ∧ i = .int .i64 (k : Int) ∧ wr = w ∧ Hid (atL (b.l.take k) id = none)) (fun i _ => n - (intOf i).toNat)
  case atStart => exact ⟨0, by omega, rfl, rfl, Lib.hid (by simp [atL])⟩
  case round =>
    obtain ⟨k, hk, rfl, rfl, hN⟩ := hrel
    by_cases hkn : k < n
    · have hkz : (k : Int) < (n : Int) := by omega
      have hkb : k < b.l.length := by have := hn.out; omega
      obtain ⟨g, hg⟩ := h.out.has hkb
      obtain ⟨e0, -⟩ := h.out.entry hkb hg
      obtain ⟨cap2, cur2, hgs, -⟩ := h.out.row_obj hg
      injection hgs with hgs _ _
      subst hgs
      have hnx := atL_take hkb hN.out
      have hpr := fun he => atL_pre hkb hN.out he
      generalize b.l[k] = x at e0 hnx hpr
      by_cases he : x.d.id = id
      · have q : (x.d.id == id) = true := by simpa using he
        have hr : Hid (R = (k : Int)) := Lib.hid (by rw [hR.out, hpr he]; rfl)
        clear hnx hpr
        replace he := Lib.hid he
        go_wp2_with fail
        go_ret
        exact ⟨hr.out ▸ rfl, rfl⟩
      · have q : (x.d.id == id) = false := by simpa using he
        rw [if_neg he] at hnx
        clear hpr
        replace he := Lib.hid he
        replace hnx := Lib.hid hnx
        go_wp2_with fail
        go_roundw
        case rel => exact ⟨k + 1, by omega, by go_num, (by first | rfl | trivial), hnx⟩
        case measure => simp [intOf]; omega
    · obtain rfl : k = n := by omega
      have hkz : ¬ (k : Int) < (k : Int) := by omega
      have hr : Hid (R = -1) := Lib.hid <| by
        have h1 := hN.out
        rw [List.take_of_length_le (by have := hn.out; omega)] at h1
        rw [hR.out, h1]; rfl
      go_wp2_with fail
      go_ret
      exact ⟨hr.out ▸ rfl, rfl⟩
end
end Go.Proofs.YthocnlalahknjaaGreat.Dd
namespace Go.Proofs.YthocnlalahknjaaGreat.Dd
open Go.RowKit
set_option linter.unusedVariables false
set_option maxHeartbeats 4000000 in
set_option maxRecDepth 100000 in
theorem may_any (d : Dl) (mem cur : Int) (rb : Nat) (w : World) (c0 : w.cell? ⟨rb, 0, none⟩ = some (.int .i64 mem)) (c1 : w.cell? ⟨rb, 1, none⟩ = some (.int .i64 cur)) : Calls Tryz.prog 50 #[.pointer (some ⟨rb, 0, none⟩), d.val] w fun e w' => e = .returned (.bool (mayB d mem cur)) ∧ Below w.heap.size w w' := by
  have hb0 : Below w.heap.size w (w.alloc d.obj) := (Below.refl _ _).alloc (Nat.le_refl _) _
  have hn := heap_alloc_new w d.obj
  have c0 : (w.alloc d.obj).cell? ⟨rb, 0, none⟩ = some (.int .i64 mem) := (hb0.cell (p := ⟨rb, 0, none⟩) (World.block_lt_of_cell? _ _ c0)).trans c0
  have c1 : (w.alloc d.obj).cell? ⟨rb, 1, none⟩ = some (.int .i64 cur) := (hb0.cell (p := ⟨rb, 1, none⟩) (World.block_lt_of_cell? _ _ c1)).trans c1
  have hmi := @mayB_iff d mem cur
  obtain ⟨R, hR⟩ : ∃ R, R = mayB d mem cur := ⟨_, rfl⟩
  rw [← hR] at hmi ⊢
  replace hR := Lib.hid hR
  unfold Dl.val
  unfold Dl.obj at *
  replace hb0 := Lib.hid hb0
  have k0 := obj_cell hn (i := 0) rfl
  have k1 := obj_cell hn (i := 1) rfl
  have k2 := obj_cell hn (i := 2) rfl
  have k3 := obj_cell hn (i := 3) rfl
  have k4 := obj_cell hn (i := 4) rfl
  have k5 := obj_cell hn (i := 5) rfl
  have k6 := obj_cell hn (i := 6) rfl
  replace hn := Lib.hid hn
  by_cases p0 : d.id < 1
  · have hr : Hid (R = false) := Lib.hid (by cases hx : R with | false => rfl | true => (have := hmi.1 hx; omega))
    clear hmi
    go_enter Tryz.func50, Tryz.ntmps50
    go_wp2_with fail
    go_ret
    exact ⟨hr.out ▸ rfl, hb0.out⟩
  · have q0 := True.intro
    by_cases p1 : 2147483647 < d.id
    · have hr : Hid (R = false) := Lib.hid (by cases hx : R with | false => rfl | true => (have := hmi.1 hx; omega))
      clear hmi
      go_enter Tryz.func50, Tryz.ntmps50
      go_wp2_with fail
      go_ret
      exact ⟨hr.out ▸ rfl, hb0.out⟩
    · have q1 := True.intro
      by_cases p2 : d.s < 1
      · have hr : Hid (R = false) := Lib.hid (by cases hx : R with | false => rfl | true => (have := hmi.1 hx; omega))
        clear hmi
        go_enter Tryz.func50, Tryz.ntmps50
        go_wp2_with fail
        go_ret
        exact ⟨hr.out ▸ rfl, hb0.out⟩
      · have q2 := True.intro
        by_cases p3 : d.t < 1
        · have hr : Hid (R = false) := Lib.hid (by cases hx : R with | false => rfl | true => (have := hmi.1 hx; omega))
          clear hmi
          go_enter Tryz.func50, Tryz.ntmps50
          go_wp2_with fail
          go_ret
          exact ⟨hr.out ▸ rfl, hb0.out⟩
        · have q3 := True.intro
          by_cases p4 : d.a = d.b
          · have q4 : (d.a == d.b) = true := by simpa using p4
            have hr : Hid (R = false) := Lib.hid (by cases hx : R with | false => rfl | true => (have := hmi.1 hx; omega))
            clear hmi
            replace p4 := Lib.hid p4
            go_enter Tryz.func50, Tryz.ntmps50
            go_wp2_with fail
            go_ret
            exact ⟨hr.out ▸ rfl, hb0.out⟩
          · have q4 : (d.a == d.b) = false := by simpa using p4
            by_cases p5 : d.sc = d.bc
            · have q5 : (d.sc == d.bc) = true := by simpa using p5
              have hr : Hid (R = false) := Lib.hid (by cases hx : R with | false => rfl | true => (have := hmi.1 hx; omega))
              clear hmi
              replace p5 := Lib.hid p5
              go_enter Tryz.func50, Tryz.ntmps50
              go_wp2_with fail
              go_ret
              exact ⟨hr.out ▸ rfl, hb0.out⟩
            · have q5 : (d.sc == d.bc) = false := by simpa using p5
              by_cases p6 : d.a < 0
              · have r6 : decide (d.a < 0) = true := by simpa using p6
                have hr : Hid (R = false) := Lib.hid (by cases hx : R with | false => rfl | true => (have := hmi.1 hx; omega))
                clear hmi
                replace p6 := Lib.hid p6
                go_enter Tryz.func50, Tryz.ntmps50
                go_wp2_with fail
                go_quiet (fail)
                go_wp2_with fail
                go_ret
                exact ⟨hr.out ▸ rfl, ⟨hb0.out.os, hb0.out.tape, hb0.out.output, hb0.out.size, hb0.out.block⟩⟩
              · have q6 := True.intro
                have r6 : decide (d.a < 0) = false := by simpa using p6
                by_cases p7 : mem ≤ d.a
                · have r7 : decide (d.a ≥ mem) = true := by simpa using p7
                  have hr : Hid (R = false) := Lib.hid (by cases hx : R with | false => rfl | true => (have := hmi.1 hx; omega))
                  clear hmi
                  replace p7 := Lib.hid p7
                  go_enter Tryz.func50, Tryz.ntmps50
                  go_wp2_with fail
                  go_quiet (fail)
                  go_wp2_with fail
                  go_ret
                  exact ⟨hr.out ▸ rfl, ⟨hb0.out.os, hb0.out.tape, hb0.out.output, hb0.out.size, hb0.out.block⟩⟩
                · have q7 := True.intro
                  have r7 : decide (d.a ≥ mem) = false := by simpa using p7
                  by_cases p8 : d.b < 0
                  · have r8 : decide (d.b < 0) = true := by simpa using p8
                    have hr : Hid (R = false) := Lib.hid (by cases hx : R with | false => rfl | true => (have := hmi.1 hx; omega))
                    clear hmi
                    replace p8 := Lib.hid p8
                    go_enter Tryz.func50, Tryz.ntmps50
                    go_wp2_with fail
                    go_quiet (fail)
                    go_wp2_with fail
                    go_ret
                    exact ⟨hr.out ▸ rfl, ⟨hb0.out.os, hb0.out.tape, hb0.out.output, hb0.out.size, hb0.out.block⟩⟩
                  · have q8 := True.intro
                    have r8 : decide (d.b < 0) = false := by simpa using p8
                    by_cases p9 : mem ≤ d.b
                    · have r9 : decide (d.b ≥ mem) = true := by simpa using p9
                      have hr : Hid (R = false) := Lib.hid (by cases hx : R with | false => rfl | true => (have := hmi.1 hx; omega))
                      clear hmi
                      replace p9 := Lib.hid p9
                      go_enter Tryz.func50, Tryz.ntmps50
                      go_wp2_with fail
                      go_quiet (fail)
                      go_wp2_with fail
                      go_ret
                      exact ⟨hr.out ▸ rfl, ⟨hb0.out.os, hb0.out.tape, hb0.out.output, hb0.out.size, hb0.out.block⟩⟩
                    · have q9 := True.intro
                      have r9 : decide (d.b ≥ mem) = false := by simpa using p9
                      by_cases p10 : ¬ 0 ≤ d.sc
                      · have r10 : decide (d.sc ≥ 0) = false := by simpa using p10
                        have hr : Hid (R = false) := Lib.hid (by cases hx : R with | false => rfl | true => (have := hmi.1 hx; omega))
                        clear hmi
                        replace p10 := Lib.hid p10
                        go_enter Tryz.func50, Tryz.ntmps50
                        go_wp2_with fail
                        go_quiet (fail)
                        go_wp2_with fail
                        go_quiet (fail)
                        go_wp2_with fail
                        go_ret
                        exact ⟨hr.out ▸ rfl, ⟨hb0.out.os, hb0.out.tape, hb0.out.output, hb0.out.size, hb0.out.block⟩⟩
                      · have p10 : 0 ≤ d.sc := Classical.byContradiction p10
                        have r10 : decide (d.sc ≥ 0) = true := by simpa using p10
                        by_cases p11 : ¬ d.sc < cur
                        · have r11 : decide (d.sc < cur) = false := by simpa using p11
                          have hr : Hid (R = false) := Lib.hid (by cases hx : R with | false => rfl | true => (have := hmi.1 hx; omega))
                          clear hmi
                          replace p11 := Lib.hid p11
                          go_enter Tryz.func50, Tryz.ntmps50
                          go_wp2_with fail
                          go_quiet (fail)
                          go_wp2_with fail
                          go_quiet (fail)
                          go_wp2_with fail
                          go_ret
                          exact ⟨hr.out ▸ rfl, ⟨hb0.out.os, hb0.out.tape, hb0.out.output, hb0.out.size, hb0.out.block⟩⟩
                        · have p11 : d.sc < cur := Classical.byContradiction p11
                          have r11 : decide (d.sc < cur) = true := by simpa using p11
                          by_cases p12 : ¬ 0 ≤ d.bc
                          · have r12 : decide (d.bc ≥ 0) = false := by simpa using p12
                            have hr : Hid (R = false) := Lib.hid (by cases hx : R with | false => rfl | true => (have := hmi.1 hx; omega))
                            clear hmi
                            replace p12 := Lib.hid p12
                            go_enter Tryz.func50, Tryz.ntmps50
                            go_wp2_with fail
                            go_quiet (fail)
                            go_wp2_with fail
                            go_quiet (fail)
                            go_wp2_with fail
                            go_ret
                            exact ⟨hr.out ▸ rfl, ⟨hb0.out.os, hb0.out.tape, hb0.out.output, hb0.out.size, hb0.out.block⟩⟩
                          · have p12 : 0 ≤ d.bc := Classical.byContradiction p12
                            have r12 : decide (d.bc ≥ 0) = true := by simpa using p12
                            by_cases p13 : ¬ d.bc < cur
                            · have r13 : decide (d.bc < cur) = false := by simpa using p13
                              have hr : Hid (R = false) := Lib.hid (by cases hx : R with | false => rfl | true => (have := hmi.1 hx; omega))
                              clear hmi
                              replace p13 := Lib.hid p13
                              go_enter Tryz.func50, Tryz.ntmps50
                              go_wp2_with fail
                              go_quiet (fail)
                              go_wp2_with fail
                              go_quiet (fail)
                              go_wp2_with fail
                              go_ret
                              exact ⟨hr.out ▸ rfl, ⟨hb0.out.os, hb0.out.tape, hb0.out.output, hb0.out.size, hb0.out.block⟩⟩
                            · have p13 : d.bc < cur := Classical.byContradiction p13
                              have r13 : decide (d.bc < cur) = true := by simpa using p13
                              have hr : Hid (R = true) := Lib.hid (hmi.2 ⟨by omega, by omega, ⟨by omega, by omega, by omega, by omega, by omega⟩, ⟨by omega, by omega, by omega, by omega, by omega⟩, by omega, by omega⟩)
                              clear hmi
                              go_enter Tryz.func50, Tryz.ntmps50
                              go_wp2_with fail
                              go_quiet (fail)
                              go_wp2_with fail
                              go_quiet (fail)
                              go_wp2_with fail
                              go_ret
                              exact ⟨hr.out ▸ rfl, ⟨hb0.out.os, hb0.out.tape, hb0.out.output, hb0.out.size, hb0.out.block⟩⟩
end Go.Proofs.YthocnlalahknjaaGreat.Dd
namespace Go.Proofs.YthocnlalahknjaaGreat.Dd
open Go.RowKit
set_option linter.unusedVariables false

theorem info61 : (Tryz.prog.info? 77).map (fun i => (i.zero, i.size, i.bytes)) = some (some (.agg #[.int .i64 0, .int .i64 0, .int .i64 0, .int .i64 0, .int .i64 0, .int .i64 0, .int .i64 0, .int .i64 0, .bool false, .bool false, .int .i64 0]), 11, 80) := by kernel_rfl
/-- append([]Entry{}, row...): a new row -/
theorem copyR_run (W : World) (s : Nat) (hs : W.heap[s]? = some (.cells #[] 77 (0, 0))) (g n c : Nat) (l : List En) (hn0 : n = l.length) (hr : W.ownsRow 0 77 11 (.slice (some ⟨g, 0, none⟩) n c) l.length (cellsR l)) (h1 : 1 ≤ l.length) (h8 : l.length ≤ 1000) :
    ∃ g' c' w', (Builtin.append_ #[73, 73] 73 #[.slice (some ⟨s, 0, none⟩) 0 0, .slice (some ⟨g, 0, none⟩) n c]).run Tryz.prog W = .ok (.slice (some ⟨g', 0, none⟩) n c') w' ∧ w'.ownsRow 0 77 11 (.slice (some ⟨g', 0, none⟩) n c') l.length (cellsR l) ∧ s ≤ g' ∧ W.grownBy w' (some s) := by
  obtain ⟨i0, hi, hz0, hz1, hz2⟩ := info_parts info61
  have hown : W.ownsRow s 77 11 (.slice (some ⟨s, 0, none⟩) 0 0) 0 [] := ⟨by simp, .inr ⟨s, 0, #[], rfl, Nat.le_refl _, hs, Nat.le_refl _, by unfold maxLen; omega, by simp, by simp⟩⟩
  obtain ⟨v', w', h2, h3, h4, _⟩ := run_append_own (P := Tryz.prog) W s 73 73 77 i0 _ 11 80 Tryz.underlying73 hi hz0 hz1 hz2 rfl (by decide) (.slice (some ⟨s, 0, none⟩) 0 0) 0 [] hown ⟨g, 0, none⟩ n c (cellsR l) (by rw [cellsR_len, hn0])
    (World.ownsRow.cells hr (g := g) rfl) (fun u hu => by unfold cellsR at hu; obtain ⟨x, _, hx⟩ := List.mem_flatMap.1 hu; exact x.rcs_one u hx) (by unfold maxLen; omega) (by omega) (Nat.le_of_lt (obj_lt hs))
  rw [Nat.zero_add, List.nil_append] at h3
  rcases h3.2 with ⟨_, e0⟩ | ⟨g', cap, cur, rfl, hg, hh, hn, hm, hsz, ht⟩
  · omega
  · exact ⟨g', cap, w', h2, ⟨by rw [← hn0]; exact h3.1, .inr ⟨g', cap, cur, by rw [hn0], Nat.zero_le _, hh, by omega, hm, hsz, by rw [← hn0]; exact ht⟩⟩, hg, h4⟩
theorem wpList_run {ops : Array Oper} {rest : List Oper} {o : Oper} {a : Act} {w : World} {Q : Exit → Act → World → Prop} (hgd : o.guard = none) (sl x : Operand) (t t' : TypeId)
    (ho : o.op = .call { callee := .builtin .append, args := #[sl, x], argTypes := #[t, t'] }) (v y v' : Value) (w' : World) (hs : a.eval sl = v) (hx : a.eval x = y) (hr : (Builtin.append_ #[t, t'] o.type #[v, y]).run Tryz.prog w = .ok v' w')
    (h : wpList Tryz.prog ops Q rest (a.put o.dst v') w') : wpList Tryz.prog ops Q (o :: rest) a w := by
  refine wpList_plain hgd fun K hK => ?_
  unfold Oper.wp execOp
  simp only [ho, resolve, invoke, builtin, Sem.run_bind, Sem.run_pure, Result.andThen_ok, List.map_toArray, List.map_cons, List.map_nil, hs, hx, hr]
  exact hK _ _ h
/-- one entry is another one -/
def setR (L : List Value) (k : Nat) (x : En) : List Value := ((((((((((L.set k (.int .i64 x.d.id)).set (k + 1) (.int .i64 x.d.a)).set (k + 2) (.int .i64 x.d.b)).set (k + 3) (.int .i64 x.d.sc)).set (k + 4) (.int .i64 x.d.bc)).set (k + 5) (.int .i64 x.d.s)).set (k + 6) (.int .i64 x.d.t)).set (k + 7) (.int .i64 x.st)).set (k + 8) (.bool x.byA)).set (k + 9) (.bool x.byB)).set (k + 10) (.int .i64 x.nth)
theorem setR_right (A B : List Value) (k : Nat) (x : En) : setR (A ++ B) (A.length + k) x = A ++ setR B k x := by
  unfold setR
  simp only [Nat.add_assoc, List.set_append_right _ _ (Nat.le_add_right _ _), Nat.add_sub_cancel_left]
theorem cellsR_set : ∀ {l : List En} {i : Nat} (h : i < l.length) (x : En), setR (cellsR l) (i * 11) x = cellsR (l.set i x)
  | [], i, h, x => by simp at h
  | y :: r, 0, h, x => by
    rw [cellsR_cons, List.set_cons_zero, cellsR_cons]
    unfold setR En.rcs
    simp
  | y :: r, i + 1, h, x => by
    rw [cellsR_cons, List.set_cons_succ, cellsR_cons, ← cellsR_set (by simpa using h) x]
    have e : (i + 1) * 11 = y.rcs.length + i * 11 := by rw [En.rcs_len]; omega
    rw [e, setR_right]
def setW (w : World) (g k : Nat) (x : En) : World := ((((((((((w.setCell ⟨g, k, none⟩ (.int .i64 x.d.id)).setCell ⟨g, k + 1, none⟩ (.int .i64 x.d.a)).setCell ⟨g, k + 2, none⟩ (.int .i64 x.d.b)).setCell ⟨g, k + 3, none⟩ (.int .i64 x.d.sc)).setCell ⟨g, k + 4, none⟩ (.int .i64 x.d.bc)).setCell ⟨g, k + 5, none⟩ (.int .i64 x.d.s)).setCell ⟨g, k + 6, none⟩ (.int .i64 x.d.t)).setCell ⟨g, k + 7, none⟩ (.int .i64 x.st)).setCell ⟨g, k + 8, none⟩ (.bool x.byA)).setCell ⟨g, k + 9, none⟩ (.bool x.byB)).setCell ⟨g, k + 10, none⟩ (.int .i64 x.nth)
theorem setCells_setW (w : World) (g k : Nat) (x : En) : w.setCells g k x.rcs = setW w g k x := rfl
theorem size61 : (Tryz.prog.info? 77).map (·.size) = some 11 := by kernel_rfl
theorem setW_row {w : World} {g n c : Nat} {l : List En} (h : w.ownsRow 0 77 11 (.slice (some ⟨g, 0, none⟩) n c) l.length (cellsR l)) {i : Nat} (hi : i < l.length) (x : En) : (setW w g (i * 11) x).ownsRow 0 77 11 (.slice (some ⟨g, 0, none⟩) n c) (l.set i x).length (cellsR (l.set i x)) := by
  have hL : (cellsR l).length = l.length * 11 := cellsR_len l
  rw [← cellsR_set hi x, List.length_set]
  unfold setW setR
  refine orow_set (orow_set (orow_set (orow_set (orow_set (orow_set (orow_set (orow_set (orow_set (orow_set (orow_set h rfl ?_ _) rfl ?_ _) rfl ?_ _) rfl ?_ _) rfl ?_ _) rfl ?_ _) rfl ?_ _) rfl ?_ _) rfl ?_ _) rfl ?_ _) rfl ?_ _
  all_goals (simp only [List.length_set, hL]; omega)
theorem setW_kp {F : Nat → Prop} {a w : World} (h : Kp F a w) {g : Nat} (hp : F g ∨ a.heap.size ≤ g) (k : Nat) (x : En) : Kp F a (setW w g k x) := by
  unfold setW
  exact ((((((((((h.setCell hp _).setCell hp _).setCell hp _).setCell hp _).setCell hp _).setCell hp _).setCell hp _).setCell hp _).setCell hp _).setCell hp _).setCell hp _
section
variable {P : Nat → Prop} {w : World} {rb : Nat} {b : Bk} {v : Value}
set_option maxHeartbeats 600000 in
set_option maxRecDepth 100000 in
theorem rset_any (h : RB P w rb b) (i : Nat) (hi : i < b.l.length) (x : En) (hlen : b.l.length ≤ 1000) (hf : ∀ j, w.heap.size ≤ j → P j) :
    Calls Tryz.prog 52 #[.pointer (some ⟨rb, 0, none⟩), .int .i64 (i : Int), x.rval] w fun e w' => e = .returned (.tuple #[]) ∧ RB P w' rb { b with l := b.l.set i x } ∧ Kp P w w' := by
  obtain ⟨v, h⟩ := h
  obtain ⟨g, cap, cur, rfl, -⟩ := orow_some h.row (by omega)
  have hb0 : Below w.heap.size w ((w.alloc (.cells x.rcs.toArray 77)).alloc (.cells #[] 77)) := ((Below.refl _ _).alloc (Nat.le_refl _) _).alloc (by simp) _
  have h0 := h.below hb0
  have hn1 : ((w.alloc (.cells x.rcs.toArray 77)).alloc (.cells #[] 77)).heap[w.heap.size]? = some (.cells x.rcs.toArray 77 (0, 0)) := by rw [Below.heap_alloc _ _ _ (by simp)]; exact heap_alloc_new w _
  obtain ⟨n, hn⟩ : ∃ n, n = b.l.length := ⟨_, rfl⟩
  obtain ⟨g', c', w2, hrun, hrow2, hg2, hgr2⟩ := copyR_run _ (w.heap.size + 1) (new_two w _ _) g n cap b.l hn (by rw [hn]; exact h0.row) (by omega) hlen
  have hK2 : Kp P w w2 := (Kp.of_below hb0).grown hgr2 fun k hk => .inr (by injection hk with hk; omega)
  have hx2 : w2.heap[w.heap.size]? = some (.cells x.rcs.toArray 77 (0, 0)) := (hgr2.block w.heap.size (obj_lt hn1) (fun e => by injection e with e; omega)).trans hn1
  have ho2 : w2.heap[rb]? = some (.cells #[.int .i64 b.mem, .int .i64 b.cur, .slice (some ⟨g, 0, none⟩) b.l.length cap, .int .i64 (b.many : Nat)] 75 (0, 0)) := (hgr2.block rb h0.lt (fun e => by injection e with e; have := h.lt; omega)).trans h0.obj
  have c2 : ((w.alloc (.cells x.rcs.toArray 77)).alloc (.cells #[] 77)).cell? ⟨rb, 2, none⟩ = some (.slice (some ⟨g, 0, none⟩) n cap) := by rw [hn]; exact obj_cell h0.obj rfl
  have hin : (i : Int) < (n : Int) := by omega
  have hi0 : (0 : Int) ≤ (i : Int) := by omega
  have hfr : ∀ j, w2.frozen? ⟨g', j, none⟩ = false := fun j => orow_free hrow2 rfl j
  have hRow : RBv P w2 rb b (.slice (some ⟨g, 0, none⟩) b.l.length cap) := ⟨ho2, orow_kp h.row (Kp.of_below (F := fun _ => False) (hb0.grown hgr2 (by simp; omega) (fun k hk => by injection hk with hk; omega))) (fun _ _ h => h), h.pg, h.pv⟩
  have q2 : ∀ j u, (cellsR b.l)[j]? = some u → w2.cell? ⟨g', j, none⟩ = some u := fun j u hj => orow_cell hrow2 rfl hj
  have hth : w2.there g' (i * 11) 11 := fun j hj => ⟨by rw [q2 _ _ ((cellsR_at hi j hj).trans (List.getElem?_eq_getElem (by rw [En.rcs_len]; exact hj)))]; rfl, hfr _⟩
  have hgr : g' ≠ rb := by have := h.lt; omega
  have hK3 : Kp P w (setW w2 g' (i * 11) x) := setW_kp hK2 (.inl (hf g' (by omega))) _ _
  have hK3b : Kp (fun j => j = g') w2 (setW w2 g' (i * 11) x) := setW_kp (F := fun j => j = g') (Kp.refl _ _) (.inl rfl) _ _
  have hrow3 := setW_row hrow2 hi x
  have ho3 := (hK3b.block rb hRow.lt (fun e => hgr e.symm)).trans ho2
  have c3 : (setW w2 g' (i * 11) x).cell? ⟨rb, 2, none⟩ = some (.slice (some ⟨g, 0, none⟩) n cap) := by rw [hn]; exact obj_cell ho3 rfl
  have z3f := obj_free ho3 2
  have hfin : RB P ((setW w2 g' (i * 11) x).setCell ⟨rb, 2, none⟩ (.slice (some ⟨g', 0, none⟩) n c')) rb { b with l := b.l.set i x } ∧ Kp P w ((setW w2 g' (i * 11) x).setCell ⟨rb, 2, none⟩ (.slice (some ⟨g', 0, none⟩) n c')) :=
    ⟨⟨_, obj_set ho3 2 _, orow_kept hrow3 fun g2 hg => obj_other _ (by simp [Value.ownBlock] at hg; subst hg; exact hgr), h.pg, fun g2 hg => by simp [Value.ownBlock] at hg; subst hg; exact hf _ (by omega)⟩, hK3.setCell (.inl h.pg) _⟩
  unfold En.rcs at hx2 hrun c2
  have e0 := obj_cell hx2 (i := 0) rfl
  have e1 := obj_cell hx2 (i := 1) rfl
  have e2 := obj_cell hx2 (i := 2) rfl
  have e3 := obj_cell hx2 (i := 3) rfl
  have e4 := obj_cell hx2 (i := 4) rfl
  have e5 := obj_cell hx2 (i := 5) rfl
  have e6 := obj_cell hx2 (i := 6) rfl
  have e7 := obj_cell hx2 (i := 7) rfl
  have e8 := obj_cell hx2 (i := 8) rfl
  have e9 := obj_cell hx2 (i := 9) rfl
  have e10 := obj_cell hx2 (i := 10) rfl
  replace hrun := Lib.hid hrun
  have hALL : ∀ W3, w2.setCells g' (i * 11) x.rcs = W3 → (W3.cell? ⟨rb, 2, none⟩ = some (.slice (some ⟨g, 0, none⟩) n cap) ∧ W3.frozen? ⟨rb, 2, none⟩ = false) ∧ (RB P (W3.setCell ⟨rb, 2, none⟩ (.slice (some ⟨g', 0, none⟩) n c')) rb { b with l := b.l.set i x } ∧ Kp P w (W3.setCell ⟨rb, 2, none⟩ (.slice (some ⟨g', 0, none⟩) n c'))) := by
    intro W3 e
    rw [setCells_setW] at e
    subst e
    exact ⟨⟨c3, z3f⟩, hfin⟩
  unfold En.rcs at hALL
  replace hALL := Lib.hid hALL
  clear h h0 hb0 hn1 hrow2 hgr2 hK2 hx2 ho2 hRow q2 hK3 hK3b hrow3 ho3 c3 z3f hfin hf hfr hlen hn
  replace hi := Lib.hid hi
  replace hth := Lib.hid hth
  unfold En.rval
  go_enter Tryz.func52, Tryz.ntmps52
  go_upto_region 2 with (at_builtin; refine wpList_run rfl (.tmp 7) (.tmp 11) 73 73 rfl _ _ _ _ rfl rfl hrun.out ?_)
  go_wp2_with (first | (refine wpList_store_mid rfl 77 (.tmp 16) (.tmp 15) rfl g' (i * 11) #[.int .i64 x.d.id, .int .i64 x.d.a, .int .i64 x.d.b, .int .i64 x.d.sc, .int .i64 x.d.bc, .int .i64 x.d.s, .int .i64 x.d.t, .int .i64 x.st, .bool x.byA, .bool x.byB, .int .i64 x.nth] rfl rfl hth.out size61 (all_oneCell_toArray (cs := x.rcs) x.rcs_one) ?_; generalize hW3 : World.setCells _ _ _ _ = W3; obtain ⟨⟨d3, t3⟩, hfin3⟩ := hALL.out W3 hW3; replace hfin3 := Lib.hid hfin3; replace hW3 := Lib.hid hW3; clear hALL hth e0 e1 e2 e3 e4 e5 e6 e7 e8 e9 e10))
  go_end0
  exact ⟨rfl, hfin3.out⟩
end
end Go.Proofs.YthocnlalahknjaaGreat.Dd
namespace Go.Proofs.YthocnlalahknjaaGreat.Dd
open Go.RowKit
set_option linter.unusedVariables false
section
variable {P : Nat → Prop} {w : World} {rb : Nat} {b : Bk} {v : Value}
theorem rset_at {W : World} (h : RB P W rb b) (i : Nat) (hi : i < b.l.length) (x : En) (y : Value) (hy : x.rval = y) (hlen : b.l.length ≤ 1000) (hf : ∀ j, W.heap.size ≤ j → P j) :
    Calls Tryz.prog 52 #[.pointer (some ⟨rb, 0, none⟩), .int .i64 (i : Int), y] W fun e w' => e = .returned (.tuple #[]) ∧ RB P w' rb { b with l := b.l.set i x } ∧ Kp P W w' := hy ▸ rset_any h i hi x hlen hf
end
end Go.Proofs.YthocnlalahknjaaGreat.Dd
namespace Go.Proofs.YthocnlalahknjaaGreat.Dd
open Go.RowKit
set_option linter.unusedVariables false
section
variable {P : Nat → Prop} {w : World} {rb : Nat} {b : Bk} {v : Value}
theorem rb_head {W : World} (h : RB P W rb b) : W.cell? ⟨rb, 0, none⟩ = some (.int .i64 b.mem) ∧ W.cell? ⟨rb, 1, none⟩ = some (.int .i64 b.cur) := by
  obtain ⟨v, h⟩ := h
  exact ⟨obj_cell h.obj rfl, obj_cell h.obj rfl⟩
theorem dbox {w w2 : World} {d : Dl} (hb : Below (w.alloc d.obj).heap.size (w.alloc d.obj) w2) : w2.cell? ⟨w.heap.size, 0, none⟩ = some (.int .i64 d.id) ∧ w2.cell? ⟨w.heap.size, 1, none⟩ = some (.int .i64 d.a) ∧ w2.cell? ⟨w.heap.size, 2, none⟩ = some (.int .i64 d.b) ∧ w2.cell? ⟨w.heap.size, 3, none⟩ = some (.int .i64 d.sc) ∧ w2.cell? ⟨w.heap.size, 4, none⟩ = some (.int .i64 d.bc) ∧ w2.cell? ⟨w.heap.size, 5, none⟩ = some (.int .i64 d.s) ∧ w2.cell? ⟨w.heap.size, 6, none⟩ = some (.int .i64 d.t) := by
  have hn := (hb.block w.heap.size (by simp)).trans (heap_alloc_new w d.obj)
  exact ⟨obj_cell hn rfl, obj_cell hn rfl, obj_cell hn rfl, obj_cell hn rfl, obj_cell hn rfl, obj_cell hn rfl, obj_cell hn rfl⟩
set_option maxHeartbeats 2000000 in
set_option maxRecDepth 100000 in
theorem rsub_arg (h : RB P w rb b) (d : Dl) (hm : mayB d b.mem b.cur = false) :
    Calls Tryz.prog 24 #[.pointer (some ⟨rb, 0, none⟩), d.val] w fun e w' => e = .returned (.tuple #[.bool (b.sub d).1.1, .int .i64 (b.sub d).1.2]) ∧ RB P w' rb (b.sub d).2 ∧ Below w.heap.size w w' := by
  have e : b.sub d = ((false, 1), b) := by unfold Bk.sub; rw [if_pos hm]
  rw [e]
  have hb0 : Below w.heap.size w (w.alloc d.obj) := (Below.refl _ _).alloc (Nat.le_refl _) _
  have h1 := below_rb h hb0
  have cm := may_any d b.mem b.cur rb (w.alloc d.obj) (rb_head h1).1 (rb_head h1).2
  rw [hm] at cm
  obtain ⟨k0, k1, k2, k3, k4, k5, k6⟩ := dbox (Below.refl (w.alloc d.obj).heap.size (w.alloc d.obj))
  clear e hm
  unfold Dl.val at *
  unfold Dl.obj at *
  replace h1 := Lib.hid h1
  replace h := Lib.hid h
  replace hb0 := Lib.hid hb0
  replace cm := Lib.hid cm
  go_enter Tryz.func24, Tryz.ntmps24
  go_wp2_with (go_at_call 50; (with_reducible refine cm.out.mono ?_); rintro e w2 ⟨rfl, hb2⟩; replace hb2 := Lib.hid hb2)
  go_ret2
  exact ⟨rfl, below_rb h1.out hb2.out, hb0.out.trans (hb2.out.mono hb0.out.size)⟩
set_option maxHeartbeats 2000000 in
set_option maxRecDepth 100000 in
theorem rsub_many (h : RB P w rb b) (d : Dl) (hm : mayB d b.mem b.cur = true) (ha : atL b.l d.id = none) (hl : 200 ≤ b.l.length) (hlen : b.l.length ≤ 1000) :
    Calls Tryz.prog 24 #[.pointer (some ⟨rb, 0, none⟩), d.val] w fun e w' => e = .returned (.tuple #[.bool (b.sub d).1.1, .int .i64 (b.sub d).1.2]) ∧ RB P w' rb (b.sub d).2 ∧ Below w.heap.size w w' := by
  have e : b.sub d = ((false, 4), b) := by unfold Bk.sub; rw [if_neg (by rw [hm]; simp), ha]; dsimp only; rw [if_pos hl]
  rw [e]
  have hb0 : Below w.heap.size w (w.alloc d.obj) := (Below.refl _ _).alloc (Nat.le_refl _) _
  have h1 := below_rb h hb0
  have cm := may_any d b.mem b.cur rb (w.alloc d.obj) (rb_head h1).1 (rb_head h1).2
  rw [hm] at cm
  have ca : ∀ W, RB P W rb b → Calls Tryz.prog 51 #[.pointer (some ⟨rb, 0, none⟩), .int .i64 d.id] W fun e w' => e = .returned (.int .i64 (-1)) ∧ W = w' := fun W hW => by
    have := at_any hW d.id hlen
    rwa [ha] at this
  have hD := fun w2 => dbox (w := w) (w2 := w2) (d := d)
  obtain ⟨k0, k1, k2, k3, k4, k5, k6⟩ := dbox (Below.refl (w.alloc d.obj).heap.size (w.alloc d.obj))
  have hlz : (200 : Int) ≤ (b.l.length : Int) := by omega
  have hc : ∀ W, RB P W rb b → ∃ p cap, W.cell? ⟨rb, 2, none⟩ = some (.slice p b.l.length cap) := fun W ⟨v, hW⟩ => by
    obtain ⟨p, cap, rfl, -, -, -⟩ := orow_shape hW.row
    exact ⟨p, cap, obj_cell hW.obj rfl⟩
  clear e hm
  unfold Dl.val at *
  unfold Dl.obj at *
  replace h1 := Lib.hid h1
  replace h := Lib.hid h
  replace hb0 := Lib.hid hb0
  replace cm := Lib.hid cm
  replace ca := Lib.hid ca
  replace hD := Lib.hid hD
  replace hc := Lib.hid hc
  replace ha := Lib.hid ha
  replace hl := Lib.hid hl
  replace hlen := Lib.hid hlen
  generalize b.l.length = n at *
  go_enter Tryz.func24, Tryz.ntmps24
  go_wp2_with (first | (go_at_call 50; (with_reducible refine cm.out.mono ?_); rintro e w2 ⟨rfl, hb2⟩; have hR2 := Lib.hid (below_rb h1.out hb2); obtain ⟨j0, -⟩ := hD.out w2 hb2; obtain ⟨p, cap, c2⟩ := hc.out w2 hR2.out; replace hb2 := Lib.hid hb2) | (go_at_call 51; (with_reducible refine (ca.out _ hR2.out).mono ?_); rintro e w3 ⟨rfl, rfl⟩))
  go_ret2
  exact ⟨rfl, hR2.out, hb0.out.trans (hb2.out.mono hb0.out.size)⟩
end
end Go.Proofs.YthocnlalahknjaaGreat.Dd
