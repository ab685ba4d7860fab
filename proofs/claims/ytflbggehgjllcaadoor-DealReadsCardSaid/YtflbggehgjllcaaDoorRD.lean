/- A row of the reference's entries, copied; the contract of the reference's set. -/
import Derived.Test.YtflbggehgjllcaaDoorRC
import Derived.Deep.MidRow
namespace Go.Proofs.YtflbggehgjllcaaDoor
open Go.RowKit
set_option linter.unusedVariables false

theorem info61 : (Tryd.prog.info? 61).map (fun i => (i.zero, i.size, i.bytes)) = some (some (.agg #[.int .i64 0, .int .i64 0, .int .i64 0, .int .i64 0, .int .i64 0, .int .i64 0, .int .i64 0, .int .i64 0, .bool false, .bool false, .int .i64 0]), 11, 80) := by kernel_rfl
/-- append([]Entry{}, row...): a new row -/
theorem copyR_run (W : World) (s : Nat) (hs : W.heap[s]? = some (.cells #[] 61 (0, 0))) (g n c : Nat) (l : List En) (hn0 : n = l.length) (hr : W.ownsRow 0 61 11 (.slice (some ⟨g, 0, none⟩) n c) l.length (cellsR l)) (h1 : 1 ≤ l.length) (h8 : l.length ≤ 1000) :
    ∃ g' c' w', (Builtin.append_ #[57, 57] 57 #[.slice (some ⟨s, 0, none⟩) 0 0, .slice (some ⟨g, 0, none⟩) n c]).run Tryd.prog W = .ok (.slice (some ⟨g', 0, none⟩) n c') w' ∧ w'.ownsRow 0 61 11 (.slice (some ⟨g', 0, none⟩) n c') l.length (cellsR l) ∧ s ≤ g' ∧ W.grownBy w' (some s) := by
  obtain ⟨i0, hi, hz0, hz1, hz2⟩ := info_parts info61
  have hown : W.ownsRow s 61 11 (.slice (some ⟨s, 0, none⟩) 0 0) 0 [] := ⟨by simp, .inr ⟨s, 0, #[], rfl, Nat.le_refl _, hs, Nat.le_refl _, by unfold maxLen; omega, by simp, by simp⟩⟩
  obtain ⟨v', w', h2, h3, h4, _⟩ := run_append_own (P := Tryd.prog) W s 57 57 61 i0 _ 11 80 Tryd.underlying57 hi hz0 hz1 hz2 rfl (by decide) (.slice (some ⟨s, 0, none⟩) 0 0) 0 [] hown ⟨g, 0, none⟩ n c (cellsR l) (by rw [cellsR_len, hn0])
    (World.ownsRow.cells hr (g := g) rfl) (fun u hu => by unfold cellsR at hu; obtain ⟨x, _, hx⟩ := List.mem_flatMap.1 hu; exact x.rcs_one u hx) (by unfold maxLen; omega) (by omega) (Nat.le_of_lt (obj_lt hs))
  rw [Nat.zero_add, List.nil_append] at h3
  rcases h3.2 with ⟨_, e0⟩ | ⟨g', cap, cur, rfl, hg, hh, hn, hm, hsz, ht⟩
  · omega
  · exact ⟨g', cap, w', h2, ⟨by rw [← hn0]; exact h3.1, .inr ⟨g', cap, cur, by rw [hn0], Nat.zero_le _, hh, by omega, hm, hsz, by rw [← hn0]; exact ht⟩⟩, hg, h4⟩
theorem wpList_run {ops : Array Oper} {rest : List Oper} {o : Oper} {a : Act} {w : World} {Q : Exit → Act → World → Prop} (hgd : o.guard = none) (sl x : Operand) (t t' : TypeId)
    (ho : o.op = .call { callee := .builtin .append, args := #[sl, x], argTypes := #[t, t'] }) (v y v' : Value) (w' : World) (hs : a.eval sl = v) (hx : a.eval x = y) (hr : (Builtin.append_ #[t, t'] o.type #[v, y]).run Tryd.prog w = .ok v' w')
    (h : wpList Tryd.prog ops Q rest (a.put o.dst v') w') : wpList Tryd.prog ops Q (o :: rest) a w := by
  refine wpList_plain hgd fun K hK => ?_
  unfold Oper.wp execOp
  simp only [ho, resolve, invoke, builtin, Sem.run_bind, Sem.run_pure, Result.andThen_ok, List.map_toArray, List.map_cons, List.map_nil, hs, hx, hr]
  exact hK _ _ h
/-- one entry is another one -/
def setR (L : List Value) (k : Nat) (x : En) : List Value := ((((((((((L.set k (.int .i64 x.d.id)).set (k + 1) (.int .i64 x.d.a)).set (k + 2) (.int .i64 x.d.b)).set (k + 3) (.int .i64 x.d.sc)).set (k + 4) (.int .i64 x.d.bc)).set (k + 5) (.int .i64 x.d.s)).set (k + 6) (.int .i64 x.d.t)).set (k + 7) (.int .i64 x.st)).set (k + 8) (.bool x.byA)).set (k + 9) (.bool x.byB)).set (k + 10) (.int .i64 x.nth)
theorem setR_right (A B : List Value) (k : Nat) (x : En) : setR (A ++ B) (A.length + k) x = A ++ setR B k x := by
  unfold setR
  simp only [Nat.add_assoc, List.set_append_right _ _ (Nat.le_add_right _ _), Nat.add_sub_cancel_left]
theorem cellsR_set : ∀ {l : List En} {i : Nat} (h : i < l.length) (x : En), setR (cellsR l) (i * 11) x = cellsR (l.set i x)
  | [], i, h, x => by simp at h
  | y :: r, 0, h, x => by
    rw [cellsR_cons, List.set_cons_zero, cellsR_cons]
    unfold setR En.rcs
    simp
  | y :: r, i + 1, h, x => by
    rw [cellsR_cons, List.set_cons_succ, cellsR_cons, ← cellsR_set (by simpa using h) x]
    have e : (i + 1) * 11 = y.rcs.length + i * 11 := by rw [En.rcs_len]; omega
    rw [e, setR_right]
def setW (w : World) (g k : Nat) (x : En) : World := ((((((((((w.setCell ⟨g, k, none⟩ (.int .i64 x.d.id)).setCell ⟨g, k + 1, none⟩ (.int .i64 x.d.a)).setCell ⟨g, k + 2, none⟩ (.int .i64 x.d.b)).setCell ⟨g, k + 3, none⟩ (.int .i64 x.d.sc)).setCell ⟨g, k + 4, none⟩ (.int .i64 x.d.bc)).setCell ⟨g, k + 5, none⟩ (.int .i64 x.d.s)).setCell ⟨g, k + 6, none⟩ (.int .i64 x.d.t)).setCell ⟨g, k + 7, none⟩ (.int .i64 x.st)).setCell ⟨g, k + 8, none⟩ (.bool x.byA)).setCell ⟨g, k + 9, none⟩ (.bool x.byB)).setCell ⟨g, k + 10, none⟩ (.int .i64 x.nth)
theorem setCells_setW (w : World) (g k : Nat) (x : En) : w.setCells g k x.rcs = setW w g k x := rfl
theorem size61 : (Tryd.prog.info? 61).map (·.size) = some 11 := by kernel_rfl
theorem setW_row {w : World} {g n c : Nat} {l : List En} (h : w.ownsRow 0 61 11 (.slice (some ⟨g, 0, none⟩) n c) l.length (cellsR l)) {i : Nat} (hi : i < l.length) (x : En) : (setW w g (i * 11) x).ownsRow 0 61 11 (.slice (some ⟨g, 0, none⟩) n c) (l.set i x).length (cellsR (l.set i x)) := by
  have hL : (cellsR l).length = l.length * 11 := cellsR_len l
  rw [← cellsR_set hi x, List.length_set]
  unfold setW setR
  refine orow_set (orow_set (orow_set (orow_set (orow_set (orow_set (orow_set (orow_set (orow_set (orow_set (orow_set h rfl ?_ _) rfl ?_ _) rfl ?_ _) rfl ?_ _) rfl ?_ _) rfl ?_ _) rfl ?_ _) rfl ?_ _) rfl ?_ _) rfl ?_ _) rfl ?_ _
  all_goals (simp only [List.length_set, hL]; omega)
theorem setW_kp {F : Nat → Prop} {a w : World} (h : Kp F a w) {g : Nat} (hp : F g ∨ a.heap.size ≤ g) (k : Nat) (x : En) : Kp F a (setW w g k x) := by
  unfold setW
  exact ((((((((((h.setCell hp _).setCell hp _).setCell hp _).setCell hp _).setCell hp _).setCell hp _).setCell hp _).setCell hp _).setCell hp _).setCell hp _).setCell hp _
section
variable {P : Nat → Prop} {w : World} {rb : Nat} {b : Bk} {v : Value}
set_option maxHeartbeats 600000 in
set_option maxRecDepth 100000 in
theorem rset_any (h : RB P w rb b) (i : Nat) (hi : i < b.l.length) (x : En) (hlen : b.l.length ≤ 1000) (hf : ∀ j, w.heap.size ≤ j → P j) :
    Calls Tryd.prog 52 #[.pointer (some ⟨rb, 0, none⟩), .int .i64 (i : Int), x.rval] w fun e w' => e = .returned (.tuple #[]) ∧ RB P w' rb { b with l := b.l.set i x } ∧ Kp P w w' := by
  obtain ⟨v, h⟩ := h
  obtain ⟨g, cap, cur, rfl, -⟩ := orow_some h.row (by omega)
  have hb0 : Below w.heap.size w ((w.alloc (.cells x.rcs.toArray 61)).alloc (.cells #[] 61)) := ((Below.refl _ _).alloc (Nat.le_refl _) _).alloc (by simp) _
  have h0 := h.below hb0
  have hn1 : ((w.alloc (.cells x.rcs.toArray 61)).alloc (.cells #[] 61)).heap[w.heap.size]? = some (.cells x.rcs.toArray 61 (0, 0)) := by rw [Below.heap_alloc _ _ _ (by simp)]; exact heap_alloc_new w _
  obtain ⟨n, hn⟩ : ∃ n, n = b.l.length := ⟨_, rfl⟩
  obtain ⟨g', c', w2, hrun, hrow2, hg2, hgr2⟩ := copyR_run _ (w.heap.size + 1) (new_two w _ _) g n cap b.l hn (by rw [hn]; exact h0.row) (by omega) hlen
  have hK2 : Kp P w w2 := (Kp.of_below hb0).grown hgr2 fun k hk => .inr (by injection hk with hk; omega)
  have hx2 : w2.heap[w.heap.size]? = some (.cells x.rcs.toArray 61 (0, 0)) := (hgr2.block w.heap.size (obj_lt hn1) (fun e => by injection e with e; omega)).trans hn1
  have ho2 : w2.heap[rb]? = some (.cells #[.int .i64 b.mem, .int .i64 b.cur, .slice (some ⟨g, 0, none⟩) b.l.length cap, .int .i64 (b.many : Nat)] 59 (0, 0)) := (hgr2.block rb h0.lt (fun e => by injection e with e; have := h.lt; omega)).trans h0.obj
  have c2 : ((w.alloc (.cells x.rcs.toArray 61)).alloc (.cells #[] 61)).cell? ⟨rb, 2, none⟩ = some (.slice (some ⟨g, 0, none⟩) n cap) := by rw [hn]; exact obj_cell h0.obj rfl
  have hin : (i : Int) < (n : Int) := by omega
  have hi0 : (0 : Int) ≤ (i : Int) := by omega
  have hfr : ∀ j, w2.frozen? ⟨g', j, none⟩ = false := fun j => orow_free hrow2 rfl j
  have hRow : RBv P w2 rb b (.slice (some ⟨g, 0, none⟩) b.l.length cap) := ⟨ho2, orow_kp h.row (Kp.of_below (F := fun _ => False) (hb0.grown hgr2 (by simp; omega) (fun k hk => by injection hk with hk; omega))) (fun _ _ h => h), h.pg, h.pv⟩
  have q2 : ∀ j u, (cellsR b.l)[j]? = some u → w2.cell? ⟨g', j, none⟩ = some u := fun j u hj => orow_cell hrow2 rfl hj
  have hth : w2.there g' (i * 11) 11 := fun j hj => ⟨by rw [q2 _ _ ((cellsR_at hi j hj).trans (List.getElem?_eq_getElem (by rw [En.rcs_len]; exact hj)))]; rfl, hfr _⟩
  have hgr : g' ≠ rb := by have := h.lt; omega
  have hK3 : Kp P w (setW w2 g' (i * 11) x) := setW_kp hK2 (.inl (hf g' (by omega))) _ _
  have hK3b : Kp (fun j => j = g') w2 (setW w2 g' (i * 11) x) := setW_kp (F := fun j => j = g') (Kp.refl _ _) (.inl rfl) _ _
  have hrow3 := setW_row hrow2 hi x
  have ho3 := (hK3b.block rb hRow.lt (fun e => hgr e.symm)).trans ho2
  have c3 : (setW w2 g' (i * 11) x).cell? ⟨rb, 2, none⟩ = some (.slice (some ⟨g, 0, none⟩) n cap) := by rw [hn]; exact obj_cell ho3 rfl
  have z3f := obj_free ho3 2
  have hfin : RB P ((setW w2 g' (i * 11) x).setCell ⟨rb, 2, none⟩ (.slice (some ⟨g', 0, none⟩) n c')) rb { b with l := b.l.set i x } ∧ Kp P w ((setW w2 g' (i * 11) x).setCell ⟨rb, 2, none⟩ (.slice (some ⟨g', 0, none⟩) n c')) :=
    ⟨⟨_, obj_set ho3 2 _, orow_kept hrow3 fun g2 hg => obj_other _ (by simp [Value.ownBlock] at hg; subst hg; exact hgr), h.pg, fun g2 hg => by simp [Value.ownBlock] at hg; subst hg; exact hf _ (by omega)⟩, hK3.setCell (.inl h.pg) _⟩
  unfold En.rcs at hx2 hrun c2
  have e0 := obj_cell hx2 (i := 0) rfl
  have e1 := obj_cell hx2 (i := 1) rfl
  have e2 := obj_cell hx2 (i := 2) rfl
  have e3 := obj_cell hx2 (i := 3) rfl
  have e4 := obj_cell hx2 (i := 4) rfl
  have e5 := obj_cell hx2 (i := 5) rfl
  have e6 := obj_cell hx2 (i := 6) rfl
  have e7 := obj_cell hx2 (i := 7) rfl
  have e8 := obj_cell hx2 (i := 8) rfl
  have e9 := obj_cell hx2 (i := 9) rfl
  have e10 := obj_cell hx2 (i := 10) rfl
  replace hrun := Lib.hid hrun
  have hALL : ∀ W3, w2.setCells g' (i * 11) x.rcs = W3 → (W3.cell? ⟨rb, 2, none⟩ = some (.slice (some ⟨g, 0, none⟩) n cap) ∧ W3.frozen? ⟨rb, 2, none⟩ = false) ∧ (RB P (W3.setCell ⟨rb, 2, none⟩ (.slice (some ⟨g', 0, none⟩) n c')) rb { b with l := b.l.set i x } ∧ Kp P w (W3.setCell ⟨rb, 2, none⟩ (.slice (some ⟨g', 0, none⟩) n c'))) := by
    intro W3 e
    rw [setCells_setW] at e
    subst e
    exact ⟨⟨c3, z3f⟩, hfin⟩
  unfold En.rcs at hALL
  replace hALL := Lib.hid hALL
  clear h h0 hb0 hn1 hrow2 hgr2 hK2 hx2 ho2 hRow q2 hK3 hK3b hrow3 ho3 c3 z3f hfin hf hfr hlen hn
  replace hi := Lib.hid hi
  replace hth := Lib.hid hth
  unfold En.rval
  go_enter Tryd.func52, Tryd.ntmps52
  go_upto_region 2 with (at_builtin; refine wpList_run rfl (.tmp 7) (.tmp 11) 57 57 rfl _ _ _ _ rfl rfl hrun.out ?_)
  go_wp2_with (first | (refine wpList_store_mid rfl 61 (.tmp 16) (.tmp 15) rfl g' (i * 11) #[.int .i64 x.d.id, .int .i64 x.d.a, .int .i64 x.d.b, .int .i64 x.d.sc, .int .i64 x.d.bc, .int .i64 x.d.s, .int .i64 x.d.t, .int .i64 x.st, .bool x.byA, .bool x.byB, .int .i64 x.nth] rfl rfl hth.out size61 (all_oneCell_toArray (cs := x.rcs) x.rcs_one) ?_; generalize hW3 : World.setCells _ _ _ _ = W3; obtain ⟨⟨d3, t3⟩, hfin3⟩ := hALL.out W3 hW3; replace hfin3 := Lib.hid hfin3; replace hW3 := Lib.hid hW3; clear hALL hth e0 e1 e2 e3 e4 e5 e6 e7 e8 e9 e10))
  go_end0
  exact ⟨rfl, hfin3.out⟩
end
end Go.Proofs.YtflbggehgjllcaaDoor
