/- Tables of the call's own; the contracts of slices.Clone, and of table's allowed, WithRate and WithCut.
  The contracts of table's allowed, WithRate and WithCut.
  awake answers true. -/
import Derived.Test.YtljclgphgojphaaP4
import Derived.Laws.OwnMore
import Derived.Laws.AppendOwn
import Derived.WalkSpells
namespace Go.Proofs.Ytljclgphgojphaa
open Go.RowKit
set_option linter.unusedVariables false

theorem Try.info30 : (Try.prog.info? 42).map (fun i => (i.zero, i.size, i.bytes)) = some (some (.agg #[.string ⟨#[]⟩, .int .i64 0, .int .i64 0]), 3, 32) := by kernel_rfl

/-- the cells of a table -/
def cells3 : List Cur → List Value
  | [] => []
  | c :: r => .string c.code :: .int .i64 c.rate :: .int .i64 c.cut :: cells3 r
theorem cells3_len : ∀ cs : List Cur, (cells3 cs).length = cs.length * 3
  | [] => rfl
  | c :: r => by simp [cells3, cells3_len r]; omega
theorem cells3_get : ∀ (cs : List Cur) (i : Nat), i < cs.length → (cells3 cs)[i * 3]? = some (.string (cAt cs i).code) ∧ (cells3 cs)[i * 3 + 1]? = some (.int .i64 (cAt cs i).rate) ∧ (cells3 cs)[i * 3 + 2]? = some (.int .i64 (cAt cs i).cut)
  | [], i, h => by simp at h
  | c :: r, 0, _ => ⟨rfl, rfl, rfl⟩
  | c :: r, i + 1, h => by
    have ih := cells3_get r i (by simpa using h)
    rw [show (i + 1) * 3 = i * 3 + 1 + 1 + 1 by omega]
    exact ih
theorem cells3_one : ∀ (cs : List Cur), ∀ u ∈ cells3 cs, u.oneCell' = true
  | [], u, h => by simp [cells3] at h
  | c :: r, u, h => by
    simp only [cells3, List.mem_cons] at h
    rcases h with rfl | rfl | rfl | h
    · rfl
    · rfl
    · rfl
    · exact cells3_one r u h
theorem cells3_rate : ∀ (cs : List Cur) (i : Nat) (x : Int), i < cs.length → (cells3 cs).set (i * 3 + 1) (.int .i64 x) = cells3 (cs.set i { cAt cs i with rate := x })
  | [], i, _, h => by simp at h
  | c :: r, 0, x, _ => rfl
  | c :: r, i + 1, x, h => by
    have ih := cells3_rate r i x (by simpa using h)
    rw [show (i + 1) * 3 + 1 = (i * 3 + 1) + 1 + 1 + 1 by omega]
    simp only [cells3, List.set_cons_succ, ih]
    rfl
theorem cells3_cut : ∀ (cs : List Cur) (i : Nat) (x : Int), i < cs.length → (cells3 cs).set (i * 3 + 2) (.int .i64 x) = cells3 (cs.set i { cAt cs i with cut := x })
  | [], i, _, h => by simp at h
  | c :: r, 0, x, _ => rfl
  | c :: r, i + 1, x, h => by
    have ih := cells3_cut r i x (by simpa using h)
    rw [show (i + 1) * 3 + 2 = (i * 3 + 2) + 1 + 1 + 1 by omega]
    simp only [cells3, List.set_cons_succ, ih]
    rfl
theorem Tab.cells {w : World} {b off len : Nat} {cs : List Cur} (h : Tab w (some ⟨b, off, none⟩) len cs) : ∀ j u, (cells3 cs)[j]? = some u → w.cell? ⟨b, off + j, none⟩ = some u := by
  obtain ⟨hl, hz, hm, hcells⟩ := h
  intro j u hu
  have hj : j < len * 3 := by
    have := (List.getElem?_eq_some_iff.1 hu).1
    rw [cells3_len, hl] at this
    exact this
  obtain ⟨b', off', e, _, hc⟩ := hcells.resolve_left (by omega)
  injection e with e
  injection e with e1 e2
  subst e1; subst e2
  have hq : j / 3 < len := by omega
  obtain ⟨c0, c1, c2⟩ := hc (j / 3) hq
  obtain ⟨d0, d1, d2⟩ := cells3_get cs (j / 3) (by rw [hl]; exact hq)
  rcases (by omega : j = j / 3 * 3 ∨ j = j / 3 * 3 + 1 ∨ j = j / 3 * 3 + 2) with e | e | e
  · rw [← e] at d0 c0; rw [d0] at hu; rw [c0]; exact hu
  · rw [← e] at d1; rw [Nat.add_assoc, ← e] at c1; rw [d1] at hu; rw [c1]; exact hu
  · rw [← e] at d2; rw [Nat.add_assoc, ← e] at c2; rw [d2] at hu; rw [c2]; exact hu
theorem Tab.of_own {w : World} {base g len cap : Nat} {cs : List Cur} (h : w.ownsRow base 42 3 (.slice (some ⟨g, 0, none⟩) len cap) len (cells3 cs)) (hl : cs.length = len) (hz : ∀ i, CurOk (cAt cs i)) (hm : len ≤ 140737488351232) : Tab w (some ⟨g, 0, none⟩) len cs := by
  refine ⟨hl, hz, hm, ?_⟩
  by_cases h0 : len = 0
  · exact .inl h0
  · refine .inr ⟨g, 0, rfl, (h.lt g rfl).2, fun i hi => ?_⟩
    obtain ⟨d0, d1, d2⟩ := cells3_get cs i (by omega)
    rw [Nat.zero_add]
    exact ⟨(h.cellAt (i * 3) (by omega)).trans d0, (h.cellAt (i * 3 + 1) (by omega)).trans d1, (h.cellAt (i * 3 + 2) (by omega)).trans d2⟩

/-- an append whose run is known -/
theorem wpList_apx {P : Program} {w : World} {ops : Array Oper} {rest : List Oper} {o : Oper} {a : Act} {Q : Exit → Act → World → Prop} (hgd : o.guard = none) (s x : Operand) (t t' : TypeId)
    (ho : o.op = .call { callee := .builtin .append, args := #[s, x], argTypes := #[t, t'] }) (v y v' : Value) (w' : World) (hs : a.eval s = v) (hx : a.eval x = y)
    (hr : (Builtin.append_ #[t, t'] o.type #[v, y]).run P w = .ok v' w') (h : wpList P ops Q rest (a.put o.dst v') w') : wpList P ops Q (o :: rest) a w :=
  wpList_plain hgd fun _ hK => by
    unfold Oper.wp execOp
    simp only [ho, resolve, invoke, builtin, Sem.run_bind, Sem.run_pure, Result.andThen_ok, List.map_toArray, List.map_cons, List.map_nil, hs, hx, hr]
    exact hK _ _ h

/-- a table, appended to an empty one of the call's own -/
theorem append_tab (w : World) (b off len cap : Nat) (cs : List Cur) (hT : Tab w (some ⟨b, off, none⟩) len cs) (h1 : 1 ≤ len) (hl : len ≤ 1000) :
    ∃ g c w', (Builtin.append_ #[22, 22] 22 #[.slice (some ⟨w.heap.size, 0, none⟩) 0 0, .slice (some ⟨b, off, none⟩) len cap]).run Try.prog (w.alloc (.cells #[] 42)) = .ok (.slice (some ⟨g, 0, none⟩) len c) w' ∧
      w'.ownsRow w.heap.size 42 3 (.slice (some ⟨g, 0, none⟩) len c) len (cells3 cs) ∧ Below w.heap.size w w' := by
  obtain ⟨i0, hi, hz0, hz1, hz2⟩ := info_parts Try.info30
  have hb0 : Below w.heap.size w (w.alloc (.cells #[] 42)) := (Below.refl _ _).alloc (Nat.le_refl _) _
  have hown0 : (w.alloc (.cells #[] 42)).ownsRow w.heap.size 42 3 (.slice (some ⟨w.heap.size, 0, none⟩) 0 0) 0 [] :=
    ⟨rfl, .inr ⟨w.heap.size, 0, #[], rfl, Nat.le_refl _, heap_alloc_new w _, Nat.le_refl _, by simp [maxLen], rfl, rfl⟩⟩
  have hT1 := hT.kept hb0
  obtain ⟨v', w', hrun, hown', hgrow, _⟩ := run_append_own (P := Try.prog) (w.alloc (.cells #[] 42)) w.heap.size 22 22 42 i0 (.agg #[.string ⟨#[]⟩, .int .i64 0, .int .i64 0]) 3 32 Try.underlying22 hi hz0 hz1 hz2 rfl (by decide)
    _ 0 [] hown0 ⟨b, off, none⟩ len cap (cells3 cs) (by rw [cells3_len, hT.1]) (fun j u hu => by rw [Go.WideShapes.add_plain]; exact hT1.cells j u hu) (cells3_one cs) (by unfold maxLen; omega) (by omega) (by simp)
  rw [Nat.zero_add, List.nil_append] at hown'
  obtain ⟨g, c, rfl⟩ : ∃ g c, v' = .slice (some ⟨g, 0, none⟩) len c := by
    rcases hown'.2 with ⟨_, h0⟩ | ⟨g, cap, cur, e, _⟩
    · omega
    · exact ⟨g, cap, e⟩
  exact ⟨g, c, w', hrun, hown', hb0.grown hgrow (by simp) (fun k hk => by simp [Value.ownBlock] at hk; omega)⟩

def Cloned (cs : List Cur) (len : Nat) (w : World) (e : Ending) (w' : World) : Prop :=
  ∃ g c, e = .returned (.slice (some ⟨g, 0, none⟩) len c) ∧ w'.ownsRow w.heap.size 42 3 (.slice (some ⟨g, 0, none⟩) len c) len (cells3 cs) ∧ Below w.heap.size w w'
set_option maxHeartbeats 1000000 in
theorem clone_any (b off len cap : Nat) (cs : List Cur) (w : World) (hT : Tab w (some ⟨b, off, none⟩) len cs) (h1 : 1 ≤ len) (hl : len ≤ 1000) :
    Calls Try.prog 48 #[.slice (some ⟨b, off, none⟩) len cap] w (Cloned cs len w) := by
  obtain ⟨g, c, w', hrun, hown, hb⟩ := append_tab w b off len cap cs hT h1 hl
  replace hrun := Lib.hid hrun
  replace hown := Lib.hid hown
  replace hb := Lib.hid hb
  replace hT := Lib.hid hT
  have heq : ∀ w, (binOp BinOp.eql 22 (.slice (some ⟨b, off, none⟩) len cap) (.slice none 0 0)).run Try.prog w = .ok (.bool false) w := fun w => by
    rw [Lib.run_eql_slice_nil w 22 42 _ _ _ _ _ Try.underlying22]; rfl
  go_enter Try.func48, Try.ntmps48
  go_wp2_with (at_builtin; refine wpList_apx rfl _ _ _ _ rfl _ _ _ _ rfl rfl hrun.out ?_)
  go_ret
  exact ⟨g, c, rfl, hown.out, hb.out⟩

end Go.Proofs.Ytljclgphgojphaa
namespace Go.Proofs.Ytljclgphgojphaa
open Go.RowKit
set_option linter.unusedVariables false

theorem curOk_set {cs : List Cur} {k : Nat} {c : Cur} (h : ∀ i, CurOk (cAt cs i)) (hc : CurOk c) (i : Nat) : CurOk (cAt (cs.set k c) i) := by
  by_cases e : k = i
  · subst e
    by_cases hk : k < cs.length
    · unfold cAt; rw [List.getD_eq_getElem?_getD, List.getElem?_set_self hk]; exact hc
    · rw [List.set_eq_of_length_le (by omega)]; exact h k
  · unfold cAt; rw [List.getD_eq_getElem?_getD, List.getElem?_set_ne e, ← List.getD_eq_getElem?_getD]; exact h i

/-- a table that may be is told as it is -/
theorem allowed_yes (p : Option Addr) (len cap : Nat) (cs : List Cur) (w : World) (hT : Tab w p len cs) (h : chkT cs = 0) :
    Calls Try.prog 82 #[.slice p len cap] w fun e w' => e = .returned (.tuple #[.slice p len cap, .int .i64 0]) ∧ Below w.heap.size w w' := by
  have hcon := check_any p len cap cs w hT
  rw [h] at hcon
  replace hcon := Lib.hid hcon
  clear hT h
  go_enter Try.func82, Try.ntmps82
  go_wp2_with fail
  refine hcon.out.mono ?_
  rintro e w1 ⟨rfl, hb⟩
  replace hb := Lib.hid hb
  go_wp2_with fail
  go_ret2
  exact ⟨rfl, hb.out⟩
theorem allowed_no (p : Option Addr) (len cap : Nat) (cs : List Cur) (w : World) (hT : Tab w p len cs) (h : ¬ chkT cs = 0) :
    Calls Try.prog 82 #[.slice p len cap] w fun e w' => e = .returned (.tuple #[.slice none 0 0, .int .i64 1]) ∧ Below w.heap.size w w' := by
  have hcon := check_any p len cap cs w hT
  generalize chkT cs = n at *
  have hn : (n != 0) = true := by simpa using h
  replace hcon := Lib.hid hcon
  clear hT h
  go_enter Try.func82, Try.ntmps82
  go_wp2_with fail
  refine hcon.out.mono ?_
  rintro e w1 ⟨rfl, hb⟩
  replace hb := Lib.hid hb
  go_wp2_with fail
  go_ret2
  exact ⟨rfl, hb.out⟩

/-- a table of its own, or none -/
def WithOut (cs : List Cur) (len : Nat) (w : World) (e : Ending) (w' : World) : Prop :=
  Below w.heap.size w w' ∧ ((¬ chkT cs = 0 ∧ e = .returned (.tuple #[.slice none 0 0, .int .i64 1])) ∨
    (chkT cs = 0 ∧ ∃ g c, e = .returned (.tuple #[.slice (some ⟨g, 0, none⟩) len c, .int .i64 0]) ∧ Tab w' (some ⟨g, 0, none⟩) len cs ∧ w.heap.size ≤ g))

set_option maxHeartbeats 2000000 in
set_option maxRecDepth 100000 in
theorem withRate_any (p : Option Addr) (len cap : Nat) (cs : List Cur) (k : Nat) (x : Int) (w : World) (hT : Tab w p len cs) (hk : k < len) (hl : len ≤ 1000) (hx : Amt x) :
    Calls Try.prog 58 #[.slice p len cap, .int .i64 k, .int .i64 x] w (WithOut (cs.set k { cAt cs k with rate := x }) len w) := by
  have hT' := hT
  obtain ⟨hle, hz, hm, hcells⟩ := hT
  obtain ⟨b, off, rfl, hblt, hc⟩ := hcells.resolve_left (by omega)
  have hcon := has_any (some ⟨b, off, none⟩) len cap k w
  rw [has_yes (by omega) (by omega)] at hcon
  replace hcon := Lib.hid hcon
  have hcl := Lib.hid (clone_any b off len cap cs w hT' (by omega) hl)
  have hzk := hz k
  have hz' : ∀ i, CurOk (cAt (cs.set k { cAt cs k with rate := x }) i) := curOk_set hz (by obtain ⟨a, b, c⟩ := hzk; first | exact ⟨a, hx, c⟩ | exact ⟨a, b, hx⟩)
  have hset := cells3_rate cs k x (by rw [hle]; exact hk)
  obtain ⟨d0, d1, d2⟩ := cells3_get cs k (by rw [hle]; exact hk)
  have hle' : (cs.set k { cAt cs k with rate := x }).length = len := by rw [List.length_set, hle]
  generalize cs.set k { cAt cs k with rate := x } = cs' at *
  replace hz' := Lib.hid hz'
  replace hset := Lib.hid hset
  replace hle' := Lib.hid hle'
  replace d1 := Lib.hid d1
  replace d2 := Lib.hid d2
  clear hc hcells hz hzk hT' d0 hle
  go_enter Try.func58, Try.ntmps58
  go_wp2_with fail
  refine hcon.out.mono ?_
  rintro e w1 ⟨rfl, rfl⟩
  go_wp2_with fail
  refine hcl.out.mono ?_
  rintro e w1 ⟨g, c, rfl, hown, hb1⟩
  clear hcon hcl
  have f1 : w1.cell? ⟨g, k * 3 + 1, none⟩ = _ := (hown.cellAt (k * 3 + 1) (by omega)).trans d1.out
  have f2 := hown.frozenAt (k * 3 + 1)
  have hg := hown.lt g rfl
  obtain ⟨hst, _⟩ := hown.stored (k * 3 + 1) (.int .i64 x)
  rw [hset.out] at hst
  have hT1 := Tab.of_own hst hle'.out hz'.out hm
  have hb2 := hb1.setCell (p := ⟨g, k * 3 + 1, none⟩) hg.1 (.int .i64 x)
  replace hb1 := Lib.hid hb1
  replace hb2 := Lib.hid hb2
  replace hown := Lib.hid hown
  clear hst
  by_cases hok : chkT cs' = 0
  · have hal := Lib.hid (allowed_yes (some ⟨g, 0, none⟩) len c cs' _ hT1 hok)
    replace hT1 := Lib.hid hT1
    replace hok := Lib.hid hok
    go_wp2_with fail
    refine hal.out.mono ?_
    rintro e w2 ⟨rfl, hb3⟩
    have hT2 := Lib.hid (hT1.out.kept hb3)
    replace hb3 := Lib.hid (chain_trans hb2.out hb3)
    go_wp2_with fail
    go_ret2
    exact ⟨hb3.out, .inr ⟨hok.out, g, c, rfl, hT2.out, hg.1⟩⟩
  · have hal := Lib.hid (allowed_no (some ⟨g, 0, none⟩) len c cs' _ hT1 hok)
    replace hT1 := Lib.hid hT1
    replace hok := Lib.hid hok
    go_wp2_with fail
    refine hal.out.mono ?_
    rintro e w2 ⟨rfl, hb3⟩
    replace hb3 := Lib.hid (chain_trans hb2.out hb3)
    go_wp2_with fail
    go_ret2
    exact ⟨hb3.out, .inl ⟨hok.out, rfl⟩⟩

set_option maxHeartbeats 1000000 in
theorem withRate_none (p : Option Addr) (len cap : Nat) (cur x : Int) (w : World) (h : ¬ (0 ≤ cur ∧ cur < len)) :
    Calls Try.prog 58 #[.slice p len cap, .int .i64 cur, .int .i64 x] w fun e w' => e = .returned (.tuple #[.slice none 0 0, .int .i64 1]) ∧ w = w' := by
  have hcon := has_any p len cap cur w
  rw [has_no h] at hcon
  replace hcon := Lib.hid hcon
  clear h
  go_enter Try.func58, Try.ntmps58
  go_wp2_with fail
  refine hcon.out.mono ?_
  rintro e w1 ⟨rfl, rfl⟩
  go_wp2_with fail
  go_ret2
  exact ⟨rfl, rfl⟩

end Go.Proofs.Ytljclgphgojphaa
namespace Go.Proofs.Ytljclgphgojphaa
open Go.RowKit
set_option linter.unusedVariables false

def eur : Cur := ⟨⟨#[69, 85, 82]⟩, 10000, 0⟩
def usd : Cur := ⟨⟨#[85, 83, 68]⟩, 12500, 200⟩
def euro : List Cur := [eur, usd]

theorem cap_lit (a b c : UInt8) (ha : 65 ≤ a.toNat ∧ a.toNat ≤ 90) (hb : 65 ≤ b.toNat ∧ b.toNat ≤ 90) (hc : 65 ≤ c.toNat ∧ c.toNat ≤ 90) : Cap3 ⟨#[a, b, c]⟩ := by
  refine ⟨rfl, fun i hi => ?_⟩
  rcases (by omega : i = 0 ∨ i = 1 ∨ i = 2) with rfl | rfl | rfl
  · exact ⟨(by decide : 0 < 3), ha⟩
  · exact ⟨(by decide : 1 < 3), hb⟩
  · exact ⟨(by decide : 2 < 3), hc⟩
theorem cap_eur : Cap3 eur.code := cap_lit 69 85 82 (by decide) (by decide) (by decide)
theorem cap_usd : Cap3 usd.code := cap_lit 85 83 68 (by decide) (by decide) (by decide)
theorem eur_usd : eur.code ≠ usd.code := by
  intro h
  have : (#[69, 85, 82] : Array UInt8) = #[85, 83, 68] := congrArg ByteArray.data h
  revert this
  decide
theorem miss_cap {s : ByteArray} (h : Cap3 s) : missB s = false := by unfold missB; simp [h]

theorem chk_two (a b : Cur) (ha : Cap3 a.code) (hb : Cap3 b.code) (hne : a.code ≠ b.code) (oa : oobB a = false) (ob : oobB b = false) (hB : baseB a = true) : chkT [a, b] = 0 := by
  unfold chkT
  rw [if_neg (by simp), if_neg (by simp [missC, miss_cap ha, miss_cap hb]), if_neg, if_neg]
  · rintro (h | h)
    · simp [oa, ob] at h
    · have : baseB (cAt [a, b] 0) = true := hB
      rw [this] at h
      cases h
  · rw [tw_no]
    · simp
    · rintro ⟨j, hj, i, hi, h⟩
      simp at hj
      obtain rfl : j = 1 := by omega
      obtain rfl : i = 0 := by omega
      exact hne h
theorem chk_euro : chkT euro = 0 := chk_two eur usd cap_eur cap_usd eur_usd (by decide) (by decide) (by decide)
theorem chk_rate : chkT (euro.set 1 { cAt euro 1 with rate := 7 }) = 0 := chk_two eur ⟨usd.code, 7, 200⟩ cap_eur cap_usd eur_usd (by decide) (by decide) (by decide)
theorem chk_cut : ¬ chkT (euro.set 0 { cAt euro 0 with cut := 1 }) = 0 := fun h => by
  have h1 := (chk_ok h).2.2.2
  revert h1
  decide
theorem find_usd : findIx ⟨#[85, 83, 68]⟩ euro = some 1 := findIx_some _ euro 1 (by decide) rfl (fun i hi => by
  obtain rfl : i = 0 := by omega
  exact eur_usd)

theorem tab_lit (w : World) : Tab (w.alloc (.cells #[.string ⟨#[69, 85, 82]⟩, .int .i64 10000, .int .i64 0, .string ⟨#[85, 83, 68]⟩, .int .i64 12500, .int .i64 200] 42)) (some ⟨w.heap.size, 0, none⟩) 2 euro := by
  refine ⟨rfl, fun i => ?_, by decide, .inr ⟨w.heap.size, 0, rfl, by simp, fun i hi => ?_⟩⟩
  · rcases (by omega : i = 0 ∨ i = 1 ∨ 2 ≤ i) with rfl | rfl | h
    · exact ⟨by decide, ⟨by decide, by decide⟩, ⟨by decide, by decide⟩⟩
    · exact ⟨by decide, ⟨by decide, by decide⟩, ⟨by decide, by decide⟩⟩
    · unfold cAt
      rw [List.getD_eq_getElem?_getD, List.getElem?_eq_none (by simpa [euro] using h)]
      exact ⟨by decide, ⟨by decide, by decide⟩, ⟨by decide, by decide⟩⟩
  · rcases (by omega : i = 0 ∨ i = 1) with rfl | rfl
    · refine ⟨?_, ?_, ?_⟩ <;> go_simp <;> rfl
    · refine ⟨?_, ?_, ?_⟩ <;> go_simp <;> rfl
theorem curOk_zero : CurOk Cur.zero := ⟨by decide, ⟨by decide, by decide⟩, ⟨by decide, by decide⟩⟩
theorem tab_nil (w : World) : Tab w none 0 [] := ⟨rfl, fun i => by rw [show cAt [] i = Cur.zero by simp [cAt]]; exact curOk_zero, by decide, .inl rfl⟩

theorem aw1 (w : World) (p : Option Addr) (h : Tab w p 2 euro) : Calls Try.prog 84 #[.slice p 2 2, .int .i64 1, .int .i64 100] w fun e w' => e = .returned (.tuple #[.int .i64 122, .int .i64 0]) ∧ Below w.heap.size w w' :=
  worth_any p 2 2 euro 1 100 w h (by decide) ⟨by decide, by decide⟩ (by decide)
theorem aw2 (w : World) (p : Option Addr) (h : Tab w p 2 euro) : Calls Try.prog 84 #[.slice p 2 2, .int .i64 1, .int .i64 (-100)] w fun e w' => e = .returned (.tuple #[.int .i64 (-128), .int .i64 0]) ∧ Below w.heap.size w w' :=
  worth_any p 2 2 euro 1 (-100) w h (by decide) ⟨by decide, by decide⟩ (by decide)
theorem aw3 (w : World) (p : Option Addr) (h : Tab w p 2 euro) : Calls Try.prog 86 #[.slice p 2 2, .int .i64 1, .int .i64 (-100)] w fun e w' => e = .returned (.tuple #[.int .i64 (-125), .int .i64 0]) ∧ Below w.heap.size w w' :=
  plain_any p 2 2 euro 1 (-100) w h (by decide) ⟨by decide, by decide⟩ (by decide)
theorem aw5 (w : World) (p : Option Addr) : Calls Try.prog 84 #[.slice p 2 2, .int .i64 2, .int .i64 1] w fun e w' => e = .returned (.tuple #[.int .i64 0, .int .i64 1]) ∧ w = w' :=
  worth_no p 2 2 2 1 w (by decide)
theorem aw6 (w : World) (p : Option Addr) (h : Tab w p 2 euro) : Calls Try.prog 58 #[.slice p 2 2, .int .i64 1, .int .i64 7] w fun e w' => Below w.heap.size w w' ∧ ∃ g c, e = .returned (.tuple #[.slice (some ⟨g, 0, none⟩) 2 c, .int .i64 0]) ∧ g < w'.heap.size ∧ w'.cell? ⟨g, 4, none⟩ = some (.int .i64 7) := by
  refine (withRate_any p 2 2 euro 1 7 w h (by decide) (by decide) ⟨by decide, by decide⟩).mono ?_
  rintro e w' ⟨hb, h | ⟨_, g, c, rfl, hT, _⟩⟩
  · exact absurd chk_rate h.1
  · obtain ⟨_, _, _, hc⟩ := hT
    obtain ⟨b, off, e, hlt, hc⟩ := hc.resolve_left (by decide)
    injection e with e
    injection e with e1 e2
    subst e1; subst e2
    exact ⟨hb, g, c, rfl, hlt, (hc 1 (by decide)).2.1⟩
theorem aw8 (w : World) (p : Option Addr) (h : Tab w p 2 euro) : Calls Try.prog 90 #[.slice p 2 2, .string ⟨#[85, 83, 68]⟩] w fun e w' => e = .returned (.tuple #[.int .i64 1, .bool true]) ∧ Below w.heap.size w w' := by
  have := find_any p 2 2 euro ⟨#[85, 83, 68]⟩ w h
  rw [find_usd] at this
  exact this
theorem aw9 (w : World) (p : Option Addr) (h : Tab w p 2 euro) : Calls Try.prog 47 #[.slice p 2 2] w fun e w' => e = .returned (.int .i64 0) ∧ Below w.heap.size w w' := by
  have := check_any p 2 2 euro w h
  rw [chk_euro] at this
  exact this
theorem aw10 (w : World) : Calls Try.prog 47 #[.slice none 0 0] w fun e w' => e = .returned (.int .i64 4) ∧ Below w.heap.size w w' := by
  have := check_any none 0 0 [] w (tab_nil w)
  rw [show chkT [] = 4 by unfold chkT; rw [if_pos (by simp)]] at this
  exact this


end Go.Proofs.Ytljclgphgojphaa
