/- The reference's book in memory; the contracts of its New, At, May, asked. -/
import Derived.Test.YtflbggehgjllcaaDoorDZ
import Derived.Test.YtflbggehgjllcaaDoorEC
namespace Go.Proofs.YtflbggehgjllcaaDoor
open Go.RowKit
set_option linter.unusedVariables false

def En.byA (e : En) : Bool := decide (e.ask = 1) || decide (e.ask = 3)
def En.byB (e : En) : Bool := decide (e.ask = 2) || decide (e.ask = 3)
def En.rcs (e : En) : List Value := [.int .i64 e.d.id, .int .i64 e.d.a, .int .i64 e.d.b, .int .i64 e.d.sc, .int .i64 e.d.bc, .int .i64 e.d.s, .int .i64 e.d.t, .int .i64 e.st, .bool e.byA, .bool e.byB, .int .i64 e.nth]
def En.rval (e : En) : Value := .agg #[.int .i64 e.d.id, .int .i64 e.d.a, .int .i64 e.d.b, .int .i64 e.d.sc, .int .i64 e.d.bc, .int .i64 e.d.s, .int .i64 e.d.t, .int .i64 e.st, .bool e.byA, .bool e.byB, .int .i64 e.nth]
theorem En.rcs_len (e : En) : e.rcs.length = 11 := rfl
theorem En.rcs_one (e : En) : ∀ u ∈ e.rcs, u.oneCell' = true := by
  intro u hu; unfold En.rcs at hu; simp at hu; rcases hu with rfl | rfl | rfl | rfl | rfl | rfl | rfl | rfl | rfl | rfl | rfl <;> rfl
def cellsR (l : List En) : List Value := l.flatMap En.rcs
theorem cellsR_len (l : List En) : (cellsR l).length = l.length * 11 := by
  unfold cellsR
  induction l with
  | nil => rfl
  | cons x l ih => rw [List.flatMap_cons, List.length_append, ih, En.rcs_len]; simp; omega
theorem cellsR_app (l : List En) (e : En) : cellsR (l ++ [e]) = cellsR l ++ e.rcs := by unfold cellsR; simp
theorem cellsR_cons (e : En) (l : List En) : cellsR (e :: l) = e.rcs ++ cellsR l := by unfold cellsR; simp
theorem cellsR_at : ∀ {l : List En} {i : Nat} (h : i < l.length) (j : Nat), j < 11 → (cellsR l)[i * 11 + j]? = l[i].rcs[j]?
  | [], i, h, j, _ => by simp at h
  | x :: r, 0, h, j, hj => by rw [cellsR_cons, Nat.zero_mul, Nat.zero_add, List.getElem?_append_left (by rw [En.rcs_len]; exact hj)]; rfl
  | x :: r, i + 1, h, j, hj => by
    rw [cellsR_cons, List.getElem?_append_right (by rw [En.rcs_len]; omega), En.rcs_len]
    have e : (i + 1) * 11 + j - 11 = i * 11 + j := by omega
    rw [e, cellsR_at (by simpa using h) j hj]; rfl

/-- the reference's book in memory, with its row -/
structure RBv (P : Nat → Prop) (w : World) (rb : Nat) (b : Bk) (v : Value) : Prop where
  obj : w.heap[rb]? = some (.cells #[.int .i64 b.mem, .int .i64 b.cur, v, .int .i64 (b.many : Nat)] 59 (0, 0))
  row : w.ownsRow 0 61 11 v b.l.length (cellsR b.l)
  pg : P rb
  pv : ∀ g, v.ownBlock = some g → P g
def RB (P : Nat → Prop) (w : World) (rb : Nat) (b : Bk) : Prop := ∃ v, RBv P w rb b v
section
variable {P Q F : Nat → Prop} {w w' : World} {rb : Nat} {b : Bk} {v : Value}
theorem RBv.row_obj (h : RBv P w rb b v) {g : Nat} (hg : v.ownBlock = some g) : ∃ cap cur, v = .slice (some ⟨g, 0, none⟩) b.l.length cap ∧ w.heap[g]? = some (.cells cur 61 (0, 0)) := by
  rcases h.row.2 with ⟨rfl, _⟩ | ⟨g', cap, cur, rfl, _, hh, _⟩
  · simp [Value.ownBlock] at hg
  · simp [Value.ownBlock] at hg
    subst hg
    exact ⟨cap, cur, rfl, hh⟩
theorem RBv.nv (h : RBv P w rb b v) : v.ownBlock ≠ some rb := fun e => by
  obtain ⟨cap, cur, _, hh⟩ := h.row_obj e
  have := h.obj.symm.trans hh
  simp at this
theorem RBv.lt (h : RBv P w rb b v) : rb < w.heap.size := obj_lt h.obj
theorem RBv.kept (h : RBv P w rb b v) (hK : Kp F w w') (hF : ∀ j, j < w.heap.size → P j → ¬ F j) : RBv P w' rb b v :=
  ⟨(hK.block rb h.lt (hF rb h.lt h.pg)).trans h.obj, orow_kp h.row hK fun g hg => hF g (World.ownsRow.lt h.row g hg).2 (h.pv g hg), h.pg, h.pv⟩
theorem RBv.weak (h : RBv P w rb b v) (hq : ∀ j, j < w.heap.size → P j → Q j) : RBv Q w rb b v :=
  ⟨h.obj, h.row, hq rb h.lt h.pg, fun g hg => hq g (World.ownsRow.lt h.row g hg).2 (h.pv g hg)⟩
theorem RBv.below (h : RBv P w rb b v) (hb : Below w.heap.size w w') : RBv P w' rb b v := h.kept (Kp.of_below (F := fun _ => False) hb) (fun _ _ _ h => h)
theorem below_rb (h : RB P w rb b) (hb : Below w.heap.size w w') : RB P w' rb b := by obtain ⟨v, h⟩ := h; exact ⟨v, h.below hb⟩
theorem RBv.has (h : RBv P w rb b v) {i : Nat} (hi : i < b.l.length) : ∃ g, v.ownBlock = some g := by
  obtain ⟨g, cap, cur, rfl, _⟩ := orow_some h.row (by omega)
  exact ⟨g, rfl⟩
theorem RBv.cells (h : RBv P w rb b v) {g i : Nat} (hg : v.ownBlock = some g) (hi : i < b.l.length) (j : Nat) (u : Value) (hj : j < 11) (hu : (b.l[i]).rcs[j]? = some u) : w.cell? ⟨g, i * 11 + j, none⟩ = some u :=
  orow_cell h.row hg ((cellsR_at hi j hj).trans hu)
theorem RBv.entry (h : RBv P w rb b v) {i g : Nat} (hi : i < b.l.length) (hg : v.ownBlock = some g) : w.cell? ⟨g, i * 11, none⟩ = some (.int .i64 (b.l[i]).d.id) ∧ w.cell? ⟨g, i * 11 + 1, none⟩ = some (.int .i64 (b.l[i]).d.a) ∧ w.cell? ⟨g, i * 11 + 2, none⟩ = some (.int .i64 (b.l[i]).d.b) ∧ w.cell? ⟨g, i * 11 + 3, none⟩ = some (.int .i64 (b.l[i]).d.sc) ∧ w.cell? ⟨g, i * 11 + 4, none⟩ = some (.int .i64 (b.l[i]).d.bc) ∧ w.cell? ⟨g, i * 11 + 5, none⟩ = some (.int .i64 (b.l[i]).d.s) ∧ w.cell? ⟨g, i * 11 + 6, none⟩ = some (.int .i64 (b.l[i]).d.t) ∧ w.cell? ⟨g, i * 11 + 7, none⟩ = some (.int .i64 (b.l[i]).st) ∧ w.cell? ⟨g, i * 11 + 8, none⟩ = some (.bool (b.l[i]).byA) ∧ w.cell? ⟨g, i * 11 + 9, none⟩ = some (.bool (b.l[i]).byB) ∧ w.cell? ⟨g, i * 11 + 10, none⟩ = some (.int .i64 (b.l[i]).nth) :=
  ⟨h.cells hg hi 0 _ (by omega) rfl, h.cells hg hi 1 _ (by omega) rfl, h.cells hg hi 2 _ (by omega) rfl, h.cells hg hi 3 _ (by omega) rfl, h.cells hg hi 4 _ (by omega) rfl, h.cells hg hi 5 _ (by omega) rfl, h.cells hg hi 6 _ (by omega) rfl, h.cells hg hi 7 _ (by omega) rfl, h.cells hg hi 8 _ (by omega) rfl, h.cells hg hi 9 _ (by omega) rfl, h.cells hg hi 10 _ (by omega) rfl⟩
end
theorem RB.live (rb : Nat) (b : Bk) : Live fun P w => RB P w rb b :=
  ⟨fun ⟨v, h⟩ k hf => ⟨v, h.kept k hf⟩, fun ⟨v, h⟩ hq => ⟨v, h.weak hq⟩⟩
set_option maxHeartbeats 2000000 in
set_option maxRecDepth 100000 in
theorem rnew_no (mem cur : Int) (w : World) (h : newR mem cur = false) : Calls Tryd.prog 9 #[.int .i64 mem, .int .i64 cur] w fun e w' => e = .returned (.tuple #[.pointer none, .int .i64 1]) ∧ w = w' := by
  unfold newR at h
  have hh := of_decide_eq_false h
  clear h
  by_cases a1 : mem < 1
  · clear hh
    go_enter Tryd.func9, Tryd.ntmps9
    go_wp2_with fail
    go_ret2
    exact ⟨rfl, rfl⟩
  · by_cases a2 : 16 < mem
    · clear hh
      go_enter Tryd.func9, Tryd.ntmps9
      go_wp2_with fail
      go_ret2
      exact ⟨rfl, rfl⟩
    · by_cases a3 : cur < 1
      · clear hh
        go_enter Tryd.func9, Tryd.ntmps9
        go_wp2_with fail
        go_ret2
        exact ⟨rfl, rfl⟩
      · have a4 : 8 < cur := by omega
        clear hh
        go_enter Tryd.func9, Tryd.ntmps9
        go_wp2_with fail
        go_ret2
        exact ⟨rfl, rfl⟩
set_option maxHeartbeats 2000000 in
set_option maxRecDepth 100000 in
theorem rnew_yes (P : Nat → Prop) (mem cur : Int) (w : World) (h : newR mem cur = true) (hf : ∀ i, w.heap.size ≤ i → P i) : Calls Tryd.prog 9 #[.int .i64 mem, .int .i64 cur] w fun e w' => ∃ rb, e = .returned (.tuple #[.pointer (some ⟨rb, 0, none⟩), .int .i64 0]) ∧ RB P w' rb ⟨mem, cur, [], 0⟩ ∧ Below w.heap.size w w' ∧ w.heap.size ≤ rb := by
  unfold newR at h
  obtain ⟨a1, a2, a3, a4⟩ := of_decide_eq_true h
  clear h
  have b1 : ¬ mem < 1 := by omega
  have b2 : ¬ 16 < mem := by omega
  have b3 : ¬ cur < 1 := by omega
  have b4 : ¬ 8 < cur := by omega
  go_enter Tryd.func9, Tryd.ntmps9
  go_wp2_with fail
  go_ret2
  exact ⟨w.heap.size, rfl, ⟨.slice none 0 0, heap_alloc_new w _, World.ownsRow_nil _ 0 61 11, hf _ (by omega), fun g hg => by simp [Value.ownBlock] at hg⟩, (Below.refl _ _).alloc (Nat.le_refl _) _, by omega⟩
theorem atL_take {l : List En} {id : Int} {k : Nat} (hk : k < l.length) (hn : atL (l.take k) id = none) : atL (l.take (k + 1)) id = if (l[k]).d.id = id then some k else none := by
  rw [List.take_succ_eq_append_getElem hk, atL_app, hn]
  dsimp only
  split
  · rw [List.length_take, Nat.min_eq_left (by omega)]
  · rfl
theorem atL_pre {l : List En} {id : Int} {k : Nat} (hk : k < l.length) (hn : atL (l.take k) id = none) (he : (l[k]).d.id = id) : atL l id = some k := by
  have h1 := atL_take hk hn
  rw [if_pos he] at h1
  have h2 : l = l.take (k + 1) ++ l.drop (k + 1) := (List.take_append_drop _ _).symm
  have h3 : ∀ (a c : List En) (i : Nat), atL a id = some i → atL (a ++ c) id = some i := by
    intro a c
    induction a with
    | nil => intro i h; simp [atL] at h
    | cons x r ih =>
      intro i h
      rw [List.cons_append]
      unfold atL at h ⊢
      split at h
      · rename_i hx; rw [if_pos hx]; exact h
      · rename_i hx
        rw [if_neg hx]
        obtain ⟨j, hj, rfl⟩ := Option.map_eq_some_iff.1 h
        rw [ih j hj]; rfl
  rw [h2]; exact h3 _ _ _ h1
def atI (o : Option Nat) : Int := match o with | none => -1 | some i => (i : Int)
section
variable {P : Nat → Prop} {w : World} {rb : Nat} {b : Bk} {v : Value}
set_option maxHeartbeats 2000000 in
set_option maxRecDepth 100000 in
theorem at_any (h : RB P w rb b) (id : Int) (hlen : b.l.length ≤ 1000) : Calls Tryd.prog 28 #[.pointer (some ⟨rb, 0, none⟩), .int .i64 id] w fun e w' => e = .returned (.int .i64 (atI (atL b.l id))) ∧ w = w' := by
  obtain ⟨v, h⟩ := h
  have c2 : w.cell? ⟨rb, 2, none⟩ = some v := obj_cell h.obj rfl
  obtain ⟨p, cap, rfl, -, -, -⟩ := orow_shape h.row
  obtain ⟨n, hn⟩ : ∃ n, n = b.l.length := ⟨_, rfl⟩
  have hn1 : n ≤ 1000 := by omega
  rw [← hn] at c2
  obtain ⟨R, hR⟩ : ∃ R, R = atI (atL b.l id) := ⟨_, rfl⟩
  rw [← hR]
  replace h := Lib.hid h
  replace hn := Lib.hid hn
  replace hR := Lib.hid hR
  go_enter Tryd.func28, Tryd.ntmps28
  go_wp2_with fail
  go_loopw [5] (fun i wr => ∃ k : Nat, k ≤ n ∧ i = .int .i64 (k : Int) ∧ wr = w ∧ Hid (atL (b.l.take k) id = none)) (fun i _ => n - (intOf i).toNat)
  case atStart => exact ⟨0, by omega, rfl, rfl, Lib.hid (by simp [atL])⟩
  case round =>
    obtain ⟨k, hk, rfl, rfl, hN⟩ := hrel
    by_cases hkn : k < n
    · have hkz : (k : Int) < (n : Int) := by omega
      have hkb : k < b.l.length := by have := hn.out; omega
      obtain ⟨g, hg⟩ := h.out.has hkb
      obtain ⟨e0, -⟩ := h.out.entry hkb hg
      obtain ⟨cap2, cur2, hgs, -⟩ := h.out.row_obj hg
      injection hgs with hgs _ _
      subst hgs
      have hnx := atL_take hkb hN.out
      have hpr := fun he => atL_pre hkb hN.out he
      generalize b.l[k] = x at e0 hnx hpr
      by_cases he : x.d.id = id
      · have q : (x.d.id == id) = true := by simpa using he
        have hr : Hid (R = (k : Int)) := Lib.hid (by rw [hR.out, hpr he]; rfl)
        clear hnx hpr
        replace he := Lib.hid he
        go_wp2_with fail
        go_ret
        exact ⟨hr.out ▸ rfl, rfl⟩
      · have q : (x.d.id == id) = false := by simpa using he
        rw [if_neg he] at hnx
        clear hpr
        replace he := Lib.hid he
        replace hnx := Lib.hid hnx
        go_wp2_with fail
        go_roundw
        case rel => exact ⟨k + 1, by omega, by go_num, (by first | rfl | trivial), hnx⟩
        case measure => simp [intOf]; omega
    · obtain rfl : k = n := by omega
      have hkz : ¬ (k : Int) < (k : Int) := by omega
      have hr : Hid (R = -1) := Lib.hid <| by
        have h1 := hN.out
        rw [List.take_of_length_le (by have := hn.out; omega)] at h1
        rw [hR.out, h1]; rfl
      go_wp2_with fail
      go_ret
      exact ⟨hr.out ▸ rfl, rfl⟩
end
end Go.Proofs.YtflbggehgjllcaaDoor
