/- The contracts of Deal, ask, Rescind. -/
import Derived.Test.YtflbggehgjllcaaDoorDD
namespace Go.Proofs.YtflbggehgjllcaaDoor
open Go.RowKit Go.Maps
set_option linter.unusedVariables false
section
variable {P : Nat → Prop} {w : World} {gb : Nat} {b : Bk} {v : Value} {mb : Nat} {D : DataW Value}
set_option maxHeartbeats 1000000 in
set_option maxRecDepth 100000 in
theorem deal_any (h : PB P w gb b) {id : Int} (hid : In64 id) (hlen : b.l.length ≤ 1000) : Calls Tryd.prog 22 #[.pointer (some ⟨gb, 0, none⟩), .int .i64 id] w fun e w' => e = .returned (.tuple #[(b.deal id).1.val, .bool (b.deal id).2]) ∧ Below w.heap.size w w' := by
  obtain ⟨v, mb, D, h⟩ := h
  have h' : ∀ P, PBv P w gb b v mb D → PBv (fun j => P j ∨ w.heap.size ≤ j) (w.alloc (.cells #[.int .i64 0, .int .i64 0, .int .i64 0, .int .i64 0, .int .i64 0, .int .i64 0, .int .i64 0] 33)) gb b v mb D :=
    fun P h => (h.kept ((Kp.refl (fun _ => False) _).alloc _) (fun _ _ _ h => h)).weak fun j _ hj => .inl hj
  have h2 := h' P h
  rcases ha : atL b.l id with _ | i
  · have c := h2.find_none hid ha
    have e : b.deal id = (zeroD, false) := by unfold Bk.deal; rw [ha]
    rw [e]
    unfold Dl.val zeroD
    clear h h2 h' ha e
    go_enter Tryd.func22, Tryd.ntmps22
    go_wp2_with (go_at_call 46; (with_reducible refine c.mono ?_); rintro e w' ⟨rfl, rfl⟩)
    exact bodyPost_ret (v := .tuple #[.agg #[.int .i64 0, .int .i64 0, .int .i64 0, .int .i64 0, .int .i64 0, .int .i64 0, .int .i64 0], .bool false]) (by simp [results, Tryd.results22, go_sem]) rfl ⟨rfl, (Below.refl _ _).alloc (Nat.le_refl _) _⟩
  · obtain ⟨hlt, -⟩ := atL_some ha
    obtain ⟨g, hg⟩ := h.has hlt
    have c := h2.find_some hid ha hg hlen
    have c0 := h.cells hg hlt 0 _ (by omega) rfl
    have c1 := h.cells hg hlt 1 _ (by omega) rfl
    have c2 := h.cells hg hlt 2 _ (by omega) rfl
    have c3 := h.cells hg hlt 3 _ (by omega) rfl
    have c4 := h.cells hg hlt 4 _ (by omega) rfl
    have c5 := h.cells hg hlt 5 _ (by omega) rfl
    have c6 := h.cells hg hlt 6 _ (by omega) rfl
    have hgl := (World.ownsRow.lt h.row g hg).2
    have e : b.deal id = ((b.l[i]).d, true) := by unfold Bk.deal; rw [ha]; dsimp only; rw [getD_at hlt]
    rw [e]
    unfold Dl.val
    rw [Nat.add_zero] at c0
    clear h h2 h' ha e
    generalize b.l[i] = x at *
    go_enter Tryd.func22, Tryd.ntmps22
    go_wp2_with (go_at_call 46; (with_reducible refine c.mono ?_); rintro e w' ⟨rfl, rfl⟩)
    exact bodyPost_ret (v := .tuple #[.agg #[.int .i64 x.d.id, .int .i64 x.d.a, .int .i64 x.d.b, .int .i64 x.d.sc, .int .i64 x.d.bc, .int .i64 x.d.s, .int .i64 x.d.t], .bool true]) (by simp [results, Tryd.results22, go_sem]) rfl ⟨rfl, (Below.refl _ _).alloc (Nat.le_refl _) _⟩

theorem or01 : bits .or .i64 0 1 = 1 := by decide
theorem or02 : bits .or .i64 0 2 = 2 := by decide
theorem or12 : bits .or .i64 1 2 = 3 := by decide
theorem or21 : bits .or .i64 2 1 = 3 := by decide
set_option maxHeartbeats 1000000 in
set_option maxRecDepth 100000 in
/-- one side asks: of the entry at i -/
theorem ask_any (h : PBv P w gb b v mb D) {i g : Nat} (hi : i < b.l.length) (hg : v.ownBlock = some g) (side : Int) (hs : side = 1 ∨ side = 2) (ho : (b.l[i]).ask = 0 ∨ (b.l[i]).ask = 1 ∨ (b.l[i]).ask = 2) (hne : (b.l[i]).ask ≠ side) :
    Calls Tryd.prog 51 #[.pointer (some ⟨g, i * 10, none⟩), .int .i64 side] w fun e w' => e = .returned (.tuple #[]) ∧ PBv P w' gb { b with l := b.l.set i ((b.l[i]).asks side) } v mb D ∧ Kp P w w' := by
  have c7 := h.cells hg hi 7 _ (by omega) rfl
  have c8 := h.cells hg hi 8 _ (by omega) rfl
  have f7 := orow_free h.row hg (i * 10 + 7)
  have f8 := orow_free h.row hg (i * 10 + 8)
  have hgl := (World.ownsRow.lt h.row g hg).2
  by_cases hst : (b.l[i]).st = 1
  · have e : (b.l[i]).asks side = { b.l[i] with st := 4 } := by unfold En.asks; rw [if_pos hst]
    have hP : PBv P (w.setCell ⟨g, i * 10 + 7, none⟩ (.int .i64 4)) gb { b with l := b.l.set i ((b.l[i]).asks side) } v mb D ∧ Kp P w (w.setCell ⟨g, i * 10 + 7, none⟩ (.int .i64 4)) := by
      rw [e]; exact ⟨h.put hg hi 7 _ _ (by omega) rfl rfl, (Kp.refl _ _).setCell (.inl (h.pv g hg)) _⟩
    have q : ((b.l[i]).st == 1) = true := by simp [hst]
    replace hP := Lib.hid hP
    clear h e hst ho hne hs
    generalize (b.l[i]).st = x at *
    go_enter Tryd.func51, Tryd.ntmps51
    go_wp2_with fail
    exact bodyPost_ret (v := .tuple #[]) (by simp [results, Tryd.results51, go_sem]) rfl ⟨rfl, hP.out⟩
  · have q : ((b.l[i]).st == 1) = false := by simp [hst]
    by_cases h0 : (b.l[i]).ask = 0
    · have e : (b.l[i]).asks side = { b.l[i] with ask := side } := by unfold En.asks; rw [if_neg hst, if_pos h0]; dsimp only; rw [if_neg (by omega)]
      have hP : PBv P (w.setCell ⟨g, i * 10 + 8, none⟩ (.int .i64 side)) gb { b with l := b.l.set i ((b.l[i]).asks side) } v mb D ∧ Kp P w (w.setCell ⟨g, i * 10 + 8, none⟩ (.int .i64 side)) := by
        rw [e]; exact ⟨h.put hg hi 8 _ _ (by omega) rfl rfl, (Kp.refl _ _).setCell (.inl (h.pv g hg)) _⟩
      replace hP := Lib.hid hP
      rw [h0] at c8
      have o1 := or01
      have o2 := or02
      have hgl' := hgl
      clear h e hst ho hne
      generalize (b.l[i]).st = x at *
      rcases hs with rfl | rfl
      all_goals
        go_enter Tryd.func51, Tryd.ntmps51
        go_wp2_with fail
        go_end0
        exact ⟨rfl, hP.out⟩
    · have e : (b.l[i]).asks side = { b.l[i] with ask := 3, st := 4 } := by unfold En.asks; rw [if_neg hst, if_neg h0]; dsimp only; rw [if_pos rfl]
      have hP : PBv P ((w.setCell ⟨g, i * 10 + 8, none⟩ (.int .i64 3)).setCell ⟨g, i * 10 + 7, none⟩ (.int .i64 4)) gb { b with l := b.l.set i ((b.l[i]).asks side) } v mb D ∧ Kp P w ((w.setCell ⟨g, i * 10 + 8, none⟩ (.int .i64 3)).setCell ⟨g, i * 10 + 7, none⟩ (.int .i64 4)) := by
        have h2 := h.put hg hi 8 (.int .i64 3) { b.l[i] with ask := 3 } (by omega) rfl rfl
        have h3 := h2.put hg (i := i) (by simpa using hi) 7 (.int .i64 4) { b.l[i] with ask := 3, st := 4 } (by omega) (by simp [En.cs]) (by simp)
        rw [e]
        simp only [List.set_set] at h3
        exact ⟨h3, ((Kp.refl _ _).setCell (.inl (h.pv g hg)) _).setCell (.inl (h.pv g hg)) _⟩
      replace hP := Lib.hid hP
      have o1 := or12
      have o2 := or21
      have hgl' := hgl
      clear h e hst
      generalize (b.l[i]).st = x at *
      generalize (b.l[i]).ask = y at *
      have hy : (y = 1 ∧ side = 2) ∨ (y = 2 ∧ side = 1) := by omega
      clear hs ho hne h0
      rcases hy with ⟨rfl, rfl⟩ | ⟨rfl, rfl⟩
      all_goals
        go_enter Tryd.func51, Tryd.ntmps51
        go_wp2_with fail
        go_end0
        exact ⟨rfl, hP.out⟩
end
end Go.Proofs.YtflbggehgjllcaaDoor
