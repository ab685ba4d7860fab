/- A book in memory; the contracts of find, State, Deal, Settle. -/
import Derived.Test.YtflbggehgjllcaaDoorDB
namespace Go.Proofs.YtflbggehgjllcaaDoor
open Go.RowKit Go.Maps
set_option linter.unusedVariables false

theorem info65 : (Tryd.prog.info? 65).map (fun i => (i.zero, i.size, i.bytes)) = some (some (.agg #[.int .i64 0, .int .i64 0, .int .i64 0, .int .i64 0, .int .i64 0, .int .i64 0, .int .i64 0, .int .i64 0, .int .i64 0, .int .i64 0]), 10, 80) := by kernel_rfl
theorem info3 : (Tryd.prog.info? 3).map (fun i => (i.zero, i.size, i.bytes)) = some (some (.int .i64 0), 1, 8) := by kernel_rfl
theorem info5 : (Tryd.prog.info? 5).map (fun i => (i.zero, i.size, i.bytes)) = some (some (.int .u8 0), 1, 1) := by kernel_rfl
theorem keyInt : Keyed Tryd.prog 3 := int_keyed Tryd.underlying3
theorem key_int {x : Int} (h : In64 x) : keyOf Tryd.prog 3 (.int .i64 x) = some (.int .i64 x) := keyOf_int_mk Tryd.underlying3 (WalkArith.wf_i64 h)
theorem zero3 (w : World) : (zeroValue 3).run Tryd.prog w = .ok (.int .i64 0) w := by kernel_rfl
/-- where an Id stands is told by the map -/
structure IxD (D : DataW Value) (l : List En) : Prop where
  isMap : Maps.IsMap D
  has : ∀ id, In64 id → Maps.has D (.int .i64 id) = (atL l id).isSome
  at_ : ∀ id i, In64 id → atL l id = some i → D.atKey (.int .i64 id) (.lit (.int .i64 0)) = .lit (.int .i64 (i : Nat))

/-- a book in memory, with its row and its map -/
structure PBv (P : Nat → Prop) (w : World) (gb : Nat) (b : Bk) (v : Value) (mb : Nat) (D : DataW Value) : Prop where
  obj : w.heap[gb]? = some (.cells #[.int .i64 b.mem, .int .i64 b.cur, v, .map (some mb), .int .i64 (b.many : Nat)] 56 (0, 0))
  row : w.ownsRow 0 65 10 v b.l.length (cellsE b.l)
  map : w.ownsMap Tryd.prog 3 (plainElem Tryd.prog 3) mb b.l.length D
  ix : IxD D b.l
  pg : P gb
  pm : P mb
  pv : ∀ g, v.ownBlock = some g → P g
def PB (P : Nat → Prop) (w : World) (gb : Nat) (b : Bk) : Prop := ∃ v mb D, PBv P w gb b v mb D

theorem map_other {w : World} {mb n : Nat} {D : DataW Value} (h : w.ownsMap Tryd.prog 3 (plainElem Tryd.prog 3) mb n D) {g : Nat} {cs : Array Value} {T : TypeId} {fr : Nat × Nat} (hg : w.heap[g]? = some (.cells cs T fr)) : g ≠ mb := by
  rintro rfl
  obtain ⟨es, clock, h1, _⟩ := h
  rw [hg] at h1
  cases h1
theorem own_block {w w' : World} {mb n : Nat} {D : DataW Value} (h : w.ownsMap Tryd.prog 3 (plainElem Tryd.prog 3) mb n D) (hb : w'.heap[mb]? = w.heap[mb]?) : w'.ownsMap Tryd.prog 3 (plainElem Tryd.prog 3) mb n D := by
  obtain ⟨es, clock, h1, h2⟩ := h
  exact ⟨es, clock, hb.trans h1, h2⟩
section
variable {P Q F : Nat → Prop} {w w' : World} {gb : Nat} {b : Bk} {v : Value} {mb : Nat} {D : DataW Value}
theorem PBv.ng (h : PBv P w gb b v mb D) : gb ≠ mb := map_other h.map h.obj
theorem PBv.row_obj (h : PBv P w gb b v mb D) {g : Nat} (hg : v.ownBlock = some g) : ∃ cap cur, v = .slice (some ⟨g, 0, none⟩) b.l.length cap ∧ w.heap[g]? = some (.cells cur 65 (0, 0)) := by
  rcases h.row.2 with ⟨rfl, _⟩ | ⟨g', cap, cur, rfl, _, hh, _⟩
  · simp [Value.ownBlock] at hg
  · simp [Value.ownBlock] at hg
    subst hg
    exact ⟨cap, cur, rfl, hh⟩
theorem PBv.nv (h : PBv P w gb b v mb D) : v.ownBlock ≠ some gb := fun e => by
  obtain ⟨cap, cur, _, hh⟩ := h.row_obj e
  have := h.obj.symm.trans hh
  simp at this
theorem PBv.nm (h : PBv P w gb b v mb D) : v.ownBlock ≠ some mb := fun e => by
  obtain ⟨cap, cur, _, hh⟩ := h.row_obj e
  exact map_other h.map hh rfl
theorem PBv.lt (h : PBv P w gb b v mb D) : gb < w.heap.size := obj_lt h.obj
theorem PBv.kept (h : PBv P w gb b v mb D) (hK : Kp F w w') (hF : ∀ j, j < w.heap.size → P j → ¬ F j) : PBv P w' gb b v mb D :=
  ⟨(hK.block gb h.lt (hF gb h.lt h.pg)).trans h.obj, orow_kp h.row hK fun g hg => hF g (World.ownsRow.lt h.row g hg).2 (h.pv g hg),
    own_block h.map (hK.block mb h.map.lt (hF mb h.map.lt h.pm)), h.ix, h.pg, h.pm, h.pv⟩
theorem PBv.weak (h : PBv P w gb b v mb D) (hq : ∀ j, j < w.heap.size → P j → Q j) : PBv Q w gb b v mb D :=
  ⟨h.obj, h.row, h.map, h.ix, hq gb h.lt h.pg, hq mb h.map.lt h.pm, fun g hg => hq g (World.ownsRow.lt h.row g hg).2 (h.pv g hg)⟩
end
theorem PB.live (gb : Nat) (b : Bk) : Live fun P w => PB P w gb b :=
  ⟨fun ⟨v, mb, D, h⟩ k hf => ⟨v, mb, D, h.kept k hf⟩, fun ⟨v, mb, D, h⟩ hq => ⟨v, mb, D, h.weak hq⟩⟩
section
variable {P : Nat → Prop} {w : World} {gb : Nat} {b : Bk} {v : Value} {mb : Nat} {D : DataW Value}
theorem PBv.find_none (h : PBv P w gb b v mb D) {id : Int} (hid : In64 id) (ha : atL b.l id = none) : Calls Tryd.prog 46 #[.pointer (some ⟨gb, 0, none⟩), .int .i64 id] w fun e w' => e = .returned (.pointer none) ∧ w = w' := by
  have c0 : w.cell? ⟨gb, 3, none⟩ = some (.map (some mb)) := obj_cell h.obj rfl
  have hh := h.ix.has id hid
  rw [ha] at hh
  have hown := h.map
  have hkey := key_int hid
  replace hh : Maps.has D (.int .i64 id) = false := hh
  replace hid := Lib.hid hid
  replace hown := Lib.hid hown
  replace hkey := Lib.hid hkey
  clear h ha
  go_enter Tryd.func46, Tryd.ntmps46
  go_wp2_with (at_lookup; refine wpList_lookup_own_ok_int _ rfl _ _ 53 rfl 3 3 .i64 keyInt Tryd.underlying53 Tryd.underlying3 (zero3 _) mb _ D rfl hown.out _ _ rfl hkey.out ?_; intro c hat hwc)
  go_ret
  exact ⟨rfl, rfl⟩
theorem PBv.find_some (h : PBv P w gb b v mb D) {id : Int} {i : Nat} (hid : In64 id) (ha : atL b.l id = some i) {g : Nat} (hg : v.ownBlock = some g) (hlen : b.l.length ≤ 1000) : Calls Tryd.prog 46 #[.pointer (some ⟨gb, 0, none⟩), .int .i64 id] w fun e w' => e = .returned (.pointer (some ⟨g, i * 10, none⟩)) ∧ w = w' := by
  have c0 : w.cell? ⟨gb, 3, none⟩ = some (.map (some mb)) := obj_cell h.obj rfl
  have c1 : w.cell? ⟨gb, 2, none⟩ = some v := obj_cell h.obj rfl
  have hh := h.ix.has id hid
  rw [ha] at hh
  have hat0 := h.ix.at_ id i hid ha
  obtain ⟨hlt, -⟩ := atL_some ha
  obtain ⟨cap, cur, rfl, -⟩ := h.row_obj hg
  have hown := h.map
  have hkey := key_int hid
  replace hh : Maps.has D (.int .i64 id) = true := hh
  generalize b.l.length = n at *
  have hz0 : (0 : Int) ≤ (i : Int) := by omega
  have hz1 : (i : Int) < (n : Int) := by omega
  replace hid := Lib.hid hid
  replace hown := Lib.hid hown
  replace hkey := Lib.hid hkey
  replace hat0 := Lib.hid hat0
  clear h ha
  go_enter Tryd.func46, Tryd.ntmps46
  go_wp2_with (at_lookup; refine wpList_lookup_own_ok_int _ rfl _ _ 53 rfl 3 3 .i64 keyInt Tryd.underlying53 Tryd.underlying3 (zero3 _) mb _ D rfl hown.out _ _ rfl hkey.out ?_; intro c hat hwc; obtain rfl : c = (i : Int) := (by have := hat0.out.symm.trans hat; simpa using this.symm); clear hat hwc)
  go_ret
  exact ⟨rfl, rfl⟩
/-- an entry's cells -/
theorem PBv.cells (h : PBv P w gb b v mb D) {g i : Nat} (hg : v.ownBlock = some g) (hi : i < b.l.length) (j : Nat) (u : Value) (hj : j < 10) (hu : (b.l[i]).cs[j]? = some u) : w.cell? ⟨g, i * 10 + j, none⟩ = some u :=
  orow_cell h.row hg ((cellsE_at hi j hj).trans hu)
theorem PBv.put (h : PBv P w gb b v mb D) {g i : Nat} (hg : v.ownBlock = some g) (hi : i < b.l.length) (j : Nat) (u : Value) (e : En) (hj : j < 10) (he : (b.l[i]).cs.set j u = e.cs) (hid : e.d.id = (b.l[i]).d.id) : PBv P (w.setCell ⟨g, i * 10 + j, none⟩ u) gb { b with l := b.l.set i e } v mb D := by
  have hne : gb ≠ g := fun e => h.nv (e ▸ hg)
  have hnm : mb ≠ g := fun e => h.nm (e ▸ hg)
  refine ⟨(obj_other (a := ⟨g, i * 10 + j, none⟩) u hne).trans h.obj, ?_, own_block (by rw [List.length_set]; exact h.map) (obj_other (a := ⟨g, i * 10 + j, none⟩) u hnm), ⟨h.ix.isMap, fun id hi2 => ?_, fun id k hi2 hk => h.ix.at_ id k hi2 ?_⟩, h.pg, h.pm, h.pv⟩
  · have h2 := orow_set h.row hg (j := i * 10 + j) (by rw [cellsE_len]; omega) u
    rw [cellsE_set hi j u e hj he] at h2
    simpa using h2
  · rw [atL_set _ _ _ _ fun _ => hid]; exact h.ix.has id hi2
  · rw [← hk]; exact (atL_set _ _ _ _ fun _ => hid).symm
theorem PBv.more (h : PBv P w gb b v mb D) (n : Nat) : PBv P (w.setCell ⟨gb, 4, none⟩ (.int .i64 (n : Nat))) gb { b with many := n } v mb D := by
  refine ⟨obj_set h.obj 4 _, orow_kept h.row fun g hg => obj_other _ fun e => h.nv (by have e2 : g = gb := e; rw [← e2]; exact hg), own_block h.map (obj_other _ fun e => h.ng (by have := e; simpa using this.symm)), h.ix, h.pg, h.pm, h.pv⟩
theorem PBv.has (h : PBv P w gb b v mb D) {i : Nat} (hi : i < b.l.length) : ∃ g, v.ownBlock = some g := by
  obtain ⟨g, cap, cur, rfl, _⟩ := orow_some h.row (by omega)
  exact ⟨g, rfl⟩
theorem getD_at {l : List En} {i : Nat} (h : i < l.length) : l.getD i default = l[i] := by rw [List.getD_eq_getElem?_getD, List.getElem?_eq_getElem h]; rfl

set_option maxHeartbeats 1000000 in
set_option maxRecDepth 100000 in
theorem state_any (h : PB P w gb b) {id : Int} (hid : In64 id) (hlen : b.l.length ≤ 1000) : Calls Tryd.prog 19 #[.pointer (some ⟨gb, 0, none⟩), .int .i64 id] w fun e w' => e = .returned (.int .i64 (b.state id)) ∧ w = w' := by
  obtain ⟨v, mb, D, h⟩ := h
  rcases ha : atL b.l id with _ | i
  · have c := h.find_none hid ha
    have e : b.state id = 0 := by unfold Bk.state; rw [ha]
    rw [e]
    clear h ha e
    go_enter Tryd.func19, Tryd.ntmps19
    go_wp2_with (go_at_call 46; (with_reducible refine c.mono ?_); rintro e w' ⟨rfl, rfl⟩)
    go_ret
    exact ⟨rfl, rfl⟩
  · obtain ⟨hlt, -⟩ := atL_some ha
    obtain ⟨g, hg⟩ := h.has hlt
    have c := h.find_some hid ha hg hlen
    have c7 := h.cells hg hlt 7 _ (by omega) rfl
    have e : b.state id = (b.l[i]).st := by unfold Bk.state; rw [ha]; dsimp only; rw [getD_at hlt]
    rw [e]
    clear h ha e
    generalize b.l[i] = x at *
    go_enter Tryd.func19, Tryd.ntmps19
    go_wp2_with (go_at_call 46; (with_reducible refine c.mono ?_); rintro e w' ⟨rfl, rfl⟩)
    go_ret
    exact ⟨rfl, rfl⟩
set_option maxHeartbeats 1000000 in
set_option maxRecDepth 100000 in
theorem settle_any (h : PB P w gb b) {id : Int} (hid : In64 id) (hlen : b.l.length ≤ 1000) : Calls Tryd.prog 21 #[.pointer (some ⟨gb, 0, none⟩), .int .i64 id] w fun e w' => e = .returned (.int .i64 (b.set id).1) ∧ PB P w' gb (b.set id).2 ∧ Kp P w w' := by
  obtain ⟨v, mb, D, h⟩ := h
  rcases ha : atL b.l id with _ | i
  · have c := h.find_none hid ha
    have e : b.set id = (5, b) := by unfold Bk.set; rw [ha]
    rw [e]
    have hP : PB P w gb b := ⟨v, mb, D, h⟩
    replace hP := Lib.hid hP
    clear h ha e
    go_enter Tryd.func21, Tryd.ntmps21
    go_wp2_with (go_at_call 46; (with_reducible refine c.mono ?_); rintro e w' ⟨rfl, rfl⟩)
    go_ret
    exact ⟨rfl, hP.out, Kp.refl _ _⟩
  · obtain ⟨hlt, -⟩ := atL_some ha
    obtain ⟨g, hg⟩ := h.has hlt
    have c := h.find_some hid ha hg hlen
    have c7 := h.cells hg hlt 7 _ (by omega) rfl
    have f7 := orow_free h.row hg (i * 10 + 7)
    by_cases hs : (b.l[i]).st = 2
    · have e : b.set id = (0, { b with l := b.l.set i { b.l[i] with st := 3 } }) := by unfold Bk.set; rw [ha]; dsimp only; rw [getD_at hlt, if_neg (by simp [hs])]
      have hP : PB P (w.setCell ⟨g, i * 10 + 7, none⟩ (.int .i64 3)) gb { b with l := b.l.set i { b.l[i] with st := 3 } } ∧ Kp P w (w.setCell ⟨g, i * 10 + 7, none⟩ (.int .i64 3)) := ⟨⟨v, mb, D, h.put hg hlt 7 _ _ (by omega) rfl rfl⟩, (Kp.refl _ _).setCell (.inl (h.pv g hg)) _⟩
      rw [e]
      have q : ((b.l[i]).st != 2) = false := by simp [hs]
      clear h ha e hs
      replace hP := Lib.hid hP
      generalize (b.l[i]).st = x at *
      go_enter Tryd.func21, Tryd.ntmps21
      go_wp2_with (go_at_call 46; (with_reducible refine c.mono ?_); rintro e w' ⟨rfl, rfl⟩)
      go_ret
      exact ⟨rfl, hP.out⟩
    · have e : b.set id = (7, b) := by unfold Bk.set; rw [ha]; dsimp only; rw [getD_at hlt, if_pos hs]
      rw [e]
      have q : ((b.l[i]).st != 2) = true := by simp [hs]
      have hP : PB P w gb b := ⟨v, mb, D, h⟩
      replace hP := Lib.hid hP
      clear h ha e hs
      generalize (b.l[i]).st = x at *
      go_enter Tryd.func21, Tryd.ntmps21
      go_wp2_with (go_at_call 46; (with_reducible refine c.mono ?_); rintro e w' ⟨rfl, rfl⟩)
      go_ret
      exact ⟨rfl, hP.out, Kp.refl _ _⟩
end
end Go.Proofs.YtflbggehgjllcaaDoor
