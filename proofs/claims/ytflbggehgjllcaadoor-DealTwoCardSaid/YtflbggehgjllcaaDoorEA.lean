/- Two that submit, ask and rescind: what a new book answers. No Go text. -/
import Derived.Test.YtflbggehgjllcaaDoorDV
namespace Go.Proofs.YtflbggehgjllcaaDoor
def T0 : Bk := ⟨16, 8, [], 0⟩
def T1 (d : Dl) : Bk := ⟨16, 8, [⟨d, 1, 0, 0⟩], 0⟩
def T2 (d : Dl) : Bk := ⟨16, 8, [⟨d, 2, 0, 1⟩], 1⟩
def T3 (d : Dl) : Bk := ⟨16, 8, [⟨d, 2, 2, 1⟩], 1⟩
def T4 (d : Dl) : Bk := ⟨16, 8, [⟨d, 4, 3, 1⟩], 1⟩
theorem at_one (e : En) : atL [e] e.d.id = some 0 := by simp [atL]
theorem tw_no {d : Dl} (h : mayB d 16 8 = false) : T0.sub d = ((false, 1), T0) := by unfold Bk.sub; rw [if_pos (by exact h)]
theorem tw_1 {d : Dl} (h : mayB d 16 8 = true) : T0.sub d = ((false, 0), T1 d) := by
  unfold Bk.sub; rw [if_neg (by show ¬ mayB d 16 8 = false; rw [h]; simp)]; rfl
theorem tw_2 {d : Dl} (h : mayB d 16 8 = true) : (T1 d).sub d.mir = ((true, 0), T2 d) := by
  have hm : mayB d.mir 16 8 = true := by rw [mayB_mir]; exact h
  have ha : atL (T1 d).l d.mir.id = some 0 := at_one ⟨d, 1, 0, 0⟩
  obtain ⟨_, _, ⟨_, _, _, _, hne⟩, _⟩ := mayB_iff.1 h
  unfold Bk.sub
  rw [if_neg (by show ¬ mayB d.mir 16 8 = false; rw [hm]; simp), ha]
  show (if (1 : Int) ≠ 1 ∨ d.a = d.mir.a then _ else if d.mir ≠ d.mir then _ else _) = _
  rw [if_neg (by unfold Dl.mir; dsimp only; omega), if_neg (by simp)]
  rfl
theorem tw_3 {d : Dl} (h : mayB d 16 8 = true) : (T2 d).sub d.mir = ((false, 6), T2 d) := by
  have hm : mayB d.mir 16 8 = true := by rw [mayB_mir]; exact h
  have ha : atL (T2 d).l d.mir.id = some 0 := at_one ⟨d, 2, 0, 1⟩
  unfold Bk.sub
  rw [if_neg (by show ¬ mayB d.mir 16 8 = false; rw [hm]; simp), ha]
  show (if (2 : Int) ≠ 1 ∨ d.a = d.mir.a then _ else _) = _
  rw [if_pos (.inl (by decide))]
theorem res_is {b : Bk} {m id : Int} {i : Nat} (x : En) {s : Int} (ha : atL b.l id = some i) (hx : b.l.getD i default = x) (hs : x.side m = s) : b.res m id = if s = 0 then ((0, 5), b) else if x.open = false then ((0, 7), b) else if x.ask = s ∨ x.ask = 3 then ((0, 6), b) else (((x.asks s).st, 0), { b with l := b.l.set i (x.asks s) }) := by
  subst hx; subst hs; unfold Bk.res; rw [ha]
theorem tw_4 {d : Dl} (h : mayB d 16 8 = true) : (T2 d).res d.b d.id = ((2, 0), T3 d) := by
  obtain ⟨_, _, ⟨_, _, _, _, hne⟩, _⟩ := mayB_iff.1 h
  have hs : (⟨d, 2, 0, 1⟩ : En).side d.b = 2 := by unfold En.side; dsimp only; rw [if_neg (fun e => hne e.symm), if_pos ⟨rfl, by decide⟩]
  rw [res_is (b := T2 d) ⟨d, 2, 0, 1⟩ (at_one ⟨d, 2, 0, 1⟩) rfl hs]
  rfl
theorem tw_5 {d : Dl} (h : mayB d 16 8 = true) : (T3 d).res d.b d.id = ((0, 6), T3 d) := by
  obtain ⟨_, _, ⟨_, _, _, _, hne⟩, _⟩ := mayB_iff.1 h
  have hs : (⟨d, 2, 2, 1⟩ : En).side d.b = 2 := by unfold En.side; dsimp only; rw [if_neg (fun e => hne e.symm), if_pos ⟨rfl, by decide⟩]
  rw [res_is (b := T3 d) ⟨d, 2, 2, 1⟩ (at_one ⟨d, 2, 2, 1⟩) rfl hs]
  rfl
theorem tw_6 (d : Dl) : (T3 d).res d.a d.id = ((4, 0), T4 d) := by
  have hs : (⟨d, 2, 2, 1⟩ : En).side d.a = 1 := by unfold En.side; dsimp only; rw [if_pos rfl]
  rw [res_is (b := T3 d) ⟨d, 2, 2, 1⟩ (at_one ⟨d, 2, 2, 1⟩) rfl hs]
  rfl
theorem tw_7 (d : Dl) : (T4 d).set d.id = (7, T4 d) := by
  have ha : atL (T4 d).l d.id = some 0 := at_one ⟨d, 4, 3, 1⟩
  unfold Bk.set
  rw [ha]
  show (if (4 : Int) ≠ 2 then _ else _) = _
  rw [if_pos (by decide)]
theorem tw_8 (d : Dl) : (T4 d).deal d.id = (d, true) := by
  have ha : atL (T4 d).l d.id = some 0 := at_one ⟨d, 4, 3, 1⟩
  unfold Bk.deal
  rw [ha]; rfl
theorem tw_9 (id : Int) : T0.state id = 0 := rfl
end Go.Proofs.YtflbggehgjllcaaDoor
