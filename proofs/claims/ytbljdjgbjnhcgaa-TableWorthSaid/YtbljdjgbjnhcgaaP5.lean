/- Tables of the call's own; the contracts of slices.Clone, and of table's allowed, WithRate and WithCut. -/
import Derived.Test.YtbljdjgbjnhcgaaP4
import Derived.Laws.OwnMore
import Derived.Laws.AppendOwn
import Derived.WalkSpells
namespace Go.Proofs.Ytbljdjgbjnhcgaa
open Go.RowKit
set_option linter.unusedVariables false

theorem Try.info30 : (Try.prog.info? 30).map (fun i => (i.zero, i.size, i.bytes)) = some (some (.agg #[.string ⟨#[]⟩, .int .i64 0, .int .i64 0]), 3, 32) := by kernel_rfl

/-- the cells of a table -/
def cells3 : List Cur → List Value
  | [] => []
  | c :: r => .string c.code :: .int .i64 c.rate :: .int .i64 c.cut :: cells3 r
theorem cells3_len : ∀ cs : List Cur, (cells3 cs).length = cs.length * 3
  | [] => rfl
  | c :: r => by simp [cells3, cells3_len r]; omega
theorem cells3_get : ∀ (cs : List Cur) (i : Nat), i < cs.length → (cells3 cs)[i * 3]? = some (.string (cAt cs i).code) ∧ (cells3 cs)[i * 3 + 1]? = some (.int .i64 (cAt cs i).rate) ∧ (cells3 cs)[i * 3 + 2]? = some (.int .i64 (cAt cs i).cut)
  | [], i, h => by simp at h
  | c :: r, 0, _ => ⟨rfl, rfl, rfl⟩
  | c :: r, i + 1, h => by
    have ih := cells3_get r i (by simpa using h)
    rw [show (i + 1) * 3 = i * 3 + 1 + 1 + 1 by omega]
    exact ih
theorem cells3_one : ∀ (cs : List Cur), ∀ u ∈ cells3 cs, u.oneCell' = true
  | [], u, h => by simp [cells3] at h
  | c :: r, u, h => by
    simp only [cells3, List.mem_cons] at h
    rcases h with rfl | rfl | rfl | h
    · rfl
    · rfl
    · rfl
    · exact cells3_one r u h
theorem cells3_rate : ∀ (cs : List Cur) (i : Nat) (x : Int), i < cs.length → (cells3 cs).set (i * 3 + 1) (.int .i64 x) = cells3 (cs.set i { cAt cs i with rate := x })
  | [], i, _, h => by simp at h
  | c :: r, 0, x, _ => rfl
  | c :: r, i + 1, x, h => by
    have ih := cells3_rate r i x (by simpa using h)
    rw [show (i + 1) * 3 + 1 = (i * 3 + 1) + 1 + 1 + 1 by omega]
    simp only [cells3, List.set_cons_succ, ih]
    rfl
theorem cells3_cut : ∀ (cs : List Cur) (i : Nat) (x : Int), i < cs.length → (cells3 cs).set (i * 3 + 2) (.int .i64 x) = cells3 (cs.set i { cAt cs i with cut := x })
  | [], i, _, h => by simp at h
  | c :: r, 0, x, _ => rfl
  | c :: r, i + 1, x, h => by
    have ih := cells3_cut r i x (by simpa using h)
    rw [show (i + 1) * 3 + 2 = (i * 3 + 2) + 1 + 1 + 1 by omega]
    simp only [cells3, List.set_cons_succ, ih]
    rfl
theorem Tab.cells {w : World} {b off len : Nat} {cs : List Cur} (h : Tab w (some ⟨b, off, none⟩) len cs) : ∀ j u, (cells3 cs)[j]? = some u → w.cell? ⟨b, off + j, none⟩ = some u := by
  obtain ⟨hl, hz, hm, hcells⟩ := h
  intro j u hu
  have hj : j < len * 3 := by
    have := (List.getElem?_eq_some_iff.1 hu).1
    rw [cells3_len, hl] at this
    exact this
  obtain ⟨b', off', e, _, hc⟩ := hcells.resolve_left (by omega)
  injection e with e
  injection e with e1 e2
  subst e1; subst e2
  have hq : j / 3 < len := by omega
  obtain ⟨c0, c1, c2⟩ := hc (j / 3) hq
  obtain ⟨d0, d1, d2⟩ := cells3_get cs (j / 3) (by rw [hl]; exact hq)
  rcases (by omega : j = j / 3 * 3 ∨ j = j / 3 * 3 + 1 ∨ j = j / 3 * 3 + 2) with e | e | e
  · rw [← e] at d0 c0; rw [d0] at hu; rw [c0]; exact hu
  · rw [← e] at d1; rw [Nat.add_assoc, ← e] at c1; rw [d1] at hu; rw [c1]; exact hu
  · rw [← e] at d2; rw [Nat.add_assoc, ← e] at c2; rw [d2] at hu; rw [c2]; exact hu
theorem Tab.of_own {w : World} {base g len cap : Nat} {cs : List Cur} (h : w.ownsRow base 30 3 (.slice (some ⟨g, 0, none⟩) len cap) len (cells3 cs)) (hl : cs.length = len) (hz : ∀ i, CurOk (cAt cs i)) (hm : len ≤ 140737488351232) : Tab w (some ⟨g, 0, none⟩) len cs := by
  refine ⟨hl, hz, hm, ?_⟩
  by_cases h0 : len = 0
  · exact .inl h0
  · refine .inr ⟨g, 0, rfl, (h.lt g rfl).2, fun i hi => ?_⟩
    obtain ⟨d0, d1, d2⟩ := cells3_get cs i (by omega)
    rw [Nat.zero_add]
    exact ⟨(h.cellAt (i * 3) (by omega)).trans d0, (h.cellAt (i * 3 + 1) (by omega)).trans d1, (h.cellAt (i * 3 + 2) (by omega)).trans d2⟩

/-- an append whose run is known -/
theorem wpList_apx {P : Program} {w : World} {ops : Array Oper} {rest : List Oper} {o : Oper} {a : Act} {Q : Exit → Act → World → Prop} (hgd : o.guard = none) (s x : Operand) (t t' : TypeId)
    (ho : o.op = .call { callee := .builtin .append, args := #[s, x], argTypes := #[t, t'] }) (v y v' : Value) (w' : World) (hs : a.eval s = v) (hx : a.eval x = y)
    (hr : (Builtin.append_ #[t, t'] o.type #[v, y]).run P w = .ok v' w') (h : wpList P ops Q rest (a.put o.dst v') w') : wpList P ops Q (o :: rest) a w :=
  wpList_plain hgd fun _ hK => by
    unfold Oper.wp execOp
    simp only [ho, resolve, invoke, builtin, Sem.run_bind, Sem.run_pure, Result.andThen_ok, List.map_toArray, List.map_cons, List.map_nil, hs, hx, hr]
    exact hK _ _ h

/-- a table, appended to an empty one of the call's own -/
theorem append_tab (w : World) (b off len cap : Nat) (cs : List Cur) (hT : Tab w (some ⟨b, off, none⟩) len cs) (h1 : 1 ≤ len) (hl : len ≤ 1000) :
    ∃ g c w', (Builtin.append_ #[22, 22] 22 #[.slice (some ⟨w.heap.size, 0, none⟩) 0 0, .slice (some ⟨b, off, none⟩) len cap]).run Try.prog (w.alloc (.cells #[] 30)) = .ok (.slice (some ⟨g, 0, none⟩) len c) w' ∧
      w'.ownsRow w.heap.size 30 3 (.slice (some ⟨g, 0, none⟩) len c) len (cells3 cs) ∧ Below w.heap.size w w' := by
  obtain ⟨i0, hi, hz0, hz1, hz2⟩ := info_parts Try.info30
  have hb0 : Below w.heap.size w (w.alloc (.cells #[] 30)) := (Below.refl _ _).alloc (Nat.le_refl _) _
  have hown0 : (w.alloc (.cells #[] 30)).ownsRow w.heap.size 30 3 (.slice (some ⟨w.heap.size, 0, none⟩) 0 0) 0 [] :=
    ⟨rfl, .inr ⟨w.heap.size, 0, #[], rfl, Nat.le_refl _, heap_alloc_new w _, Nat.le_refl _, by simp [maxLen], rfl, rfl⟩⟩
  have hT1 := hT.kept hb0
  obtain ⟨v', w', hrun, hown', hgrow, _⟩ := run_append_own (P := Try.prog) (w.alloc (.cells #[] 30)) w.heap.size 22 22 30 i0 (.agg #[.string ⟨#[]⟩, .int .i64 0, .int .i64 0]) 3 32 Try.underlying22 hi hz0 hz1 hz2 rfl (by decide)
    _ 0 [] hown0 ⟨b, off, none⟩ len cap (cells3 cs) (by rw [cells3_len, hT.1]) (fun j u hu => by rw [Go.WideShapes.add_plain]; exact hT1.cells j u hu) (cells3_one cs) (by unfold maxLen; omega) (by omega) (by simp)
  rw [Nat.zero_add, List.nil_append] at hown'
  obtain ⟨g, c, rfl⟩ : ∃ g c, v' = .slice (some ⟨g, 0, none⟩) len c := by
    rcases hown'.2 with ⟨_, h0⟩ | ⟨g, cap, cur, e, _⟩
    · omega
    · exact ⟨g, cap, e⟩
  exact ⟨g, c, w', hrun, hown', hb0.grown hgrow (by simp) (fun k hk => by simp [Value.ownBlock] at hk; omega)⟩

def Cloned (cs : List Cur) (len : Nat) (w : World) (e : Ending) (w' : World) : Prop :=
  ∃ g c, e = .returned (.slice (some ⟨g, 0, none⟩) len c) ∧ w'.ownsRow w.heap.size 30 3 (.slice (some ⟨g, 0, none⟩) len c) len (cells3 cs) ∧ Below w.heap.size w w'
set_option maxHeartbeats 1000000 in
theorem clone_any (b off len cap : Nat) (cs : List Cur) (w : World) (hT : Tab w (some ⟨b, off, none⟩) len cs) (h1 : 1 ≤ len) (hl : len ≤ 1000) :
    Calls Try.prog 31 #[.slice (some ⟨b, off, none⟩) len cap] w (Cloned cs len w) := by
  obtain ⟨g, c, w', hrun, hown, hb⟩ := append_tab w b off len cap cs hT h1 hl
  replace hrun := Lib.hid hrun
  replace hown := Lib.hid hown
  replace hb := Lib.hid hb
  replace hT := Lib.hid hT
  have heq : ∀ w, (binOp BinOp.eql 22 (.slice (some ⟨b, off, none⟩) len cap) (.slice none 0 0)).run Try.prog w = .ok (.bool false) w := fun w => by
    rw [Lib.run_eql_slice_nil w 22 30 _ _ _ _ _ Try.underlying22]; rfl
  go_enter Try.func31, Try.ntmps31
  go_wp2_with (at_builtin; refine wpList_apx rfl _ _ _ _ rfl _ _ _ _ rfl rfl hrun.out ?_)
  go_ret
  exact ⟨g, c, rfl, hown.out, hb.out⟩

end Go.Proofs.Ytbljdjgbjnhcgaa
