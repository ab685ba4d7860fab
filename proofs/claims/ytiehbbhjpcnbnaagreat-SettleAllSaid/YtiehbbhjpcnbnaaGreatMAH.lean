/- Tables of the call's own; the contracts of slices.Clone, and of table's allowed, WithRate and WithCut.
  The contracts of table's allowed, WithRate and WithCut.
  awake answers true.
  A region that draws its order: what every order keeps is there at its end. -/
import Derived.Test.YtiehbbhjpcnbnaaGreatP4
import Derived.Laws.OwnMore
import Derived.Laws.AppendOwn
import Derived.WalkSpells
import Derived.Test.YtiehbbhjpcnbnaaGreatW0
namespace Go.Proofs.YtiehbbhjpcnbnaaGreat
open Go.RowKit
set_option linter.unusedVariables false

theorem Tryz.info30 : (Tryz.prog.info? 55).map (fun i => (i.zero, i.size, i.bytes)) = some (some (.agg #[.string ⟨#[]⟩, .int .i64 0, .int .i64 0]), 3, 32) := by kernel_rfl

/-- the cells of a table -/
def cells3 : List Cur → List Value
  | [] => []
  | c :: r => .string c.code :: .int .i64 c.rate :: .int .i64 c.cut :: cells3 r
theorem cells3_len : ∀ cs : List Cur, (cells3 cs).length = cs.length * 3
  | [] => rfl
  | c :: r => by simp [cells3, cells3_len r]; omega
theorem cells3_get : ∀ (cs : List Cur) (i : Nat), i < cs.length → (cells3 cs)[i * 3]? = some (.string (cAt cs i).code) ∧ (cells3 cs)[i * 3 + 1]? = some (.int .i64 (cAt cs i).rate) ∧ (cells3 cs)[i * 3 + 2]? = some (.int .i64 (cAt cs i).cut)
  | [], i, h => by simp at h
  | c :: r, 0, _ => ⟨rfl, rfl, rfl⟩
  | c :: r, i + 1, h => by
    have ih := cells3_get r i (by simpa using h)
    rw [show (i + 1) * 3 = i * 3 + 1 + 1 + 1 by omega]
    exact ih
theorem cells3_one : ∀ (cs : List Cur), ∀ u ∈ cells3 cs, u.oneCell' = true
  | [], u, h => by simp [cells3] at h
  | c :: r, u, h => by
    simp only [cells3, List.mem_cons] at h
    rcases h with rfl | rfl | rfl | h
    · rfl
    · rfl
    · rfl
    · exact cells3_one r u h
theorem cells3_rate : ∀ (cs : List Cur) (i : Nat) (x : Int), i < cs.length → (cells3 cs).set (i * 3 + 1) (.int .i64 x) = cells3 (cs.set i { cAt cs i with rate := x })
  | [], i, _, h => by simp at h
  | c :: r, 0, x, _ => rfl
  | c :: r, i + 1, x, h => by
    have ih := cells3_rate r i x (by simpa using h)
    rw [show (i + 1) * 3 + 1 = (i * 3 + 1) + 1 + 1 + 1 by omega]
    simp only [cells3, List.set_cons_succ, ih]
    rfl
theorem cells3_cut : ∀ (cs : List Cur) (i : Nat) (x : Int), i < cs.length → (cells3 cs).set (i * 3 + 2) (.int .i64 x) = cells3 (cs.set i { cAt cs i with cut := x })
  | [], i, _, h => by simp at h
  | c :: r, 0, x, _ => rfl
  | c :: r, i + 1, x, h => by
    have ih := cells3_cut r i x (by simpa using h)
    rw [show (i + 1) * 3 + 2 = (i * 3 + 2) + 1 + 1 + 1 by omega]
    simp only [cells3, List.set_cons_succ, ih]
    rfl
theorem Tab.cells {w : World} {b off len : Nat} {cs : List Cur} (h : Tab w (some ⟨b, off, none⟩) len cs) : ∀ j u, (cells3 cs)[j]? = some u → w.cell? ⟨b, off + j, none⟩ = some u := by
  obtain ⟨hl, hz, hm, hcells⟩ := h
  intro j u hu
  have hj : j < len * 3 := by
    have := (List.getElem?_eq_some_iff.1 hu).1
    rw [cells3_len, hl] at this
    exact this
  obtain ⟨b', off', e, _, hc⟩ := hcells.resolve_left (by omega)
  injection e with e
  injection e with e1 e2
  subst e1; subst e2
  have hq : j / 3 < len := by omega
  obtain ⟨c0, c1, c2⟩ := hc (j / 3) hq
  obtain ⟨d0, d1, d2⟩ := cells3_get cs (j / 3) (by rw [hl]; exact hq)
  rcases (by omega : j = j / 3 * 3 ∨ j = j / 3 * 3 + 1 ∨ j = j / 3 * 3 + 2) with e | e | e
  · rw [← e] at d0 c0; rw [d0] at hu; rw [c0]; exact hu
  · rw [← e] at d1; rw [Nat.add_assoc, ← e] at c1; rw [d1] at hu; rw [c1]; exact hu
  · rw [← e] at d2; rw [Nat.add_assoc, ← e] at c2; rw [d2] at hu; rw [c2]; exact hu
theorem Tab.of_own {w : World} {base g len cap : Nat} {cs : List Cur} (h : w.ownsRow base 55 3 (.slice (some ⟨g, 0, none⟩) len cap) len (cells3 cs)) (hl : cs.length = len) (hz : ∀ i, CurOk (cAt cs i)) (hm : len ≤ 140737488351232) : Tab w (some ⟨g, 0, none⟩) len cs := by
  refine ⟨hl, hz, hm, ?_⟩
  by_cases h0 : len = 0
  · exact .inl h0
  · refine .inr ⟨g, 0, rfl, (h.lt g rfl).2, fun i hi => ?_⟩
    obtain ⟨d0, d1, d2⟩ := cells3_get cs i (by omega)
    rw [Nat.zero_add]
    exact ⟨(h.cellAt (i * 3) (by omega)).trans d0, (h.cellAt (i * 3 + 1) (by omega)).trans d1, (h.cellAt (i * 3 + 2) (by omega)).trans d2⟩

/-- an append whose run is known -/
theorem wpList_apx {P : Program} {w : World} {ops : Array Oper} {rest : List Oper} {o : Oper} {a : Act} {Q : Exit → Act → World → Prop} (hgd : o.guard = none) (s x : Operand) (t t' : TypeId)
    (ho : o.op = .call { callee := .builtin .append, args := #[s, x], argTypes := #[t, t'] }) (v y v' : Value) (w' : World) (hs : a.eval s = v) (hx : a.eval x = y)
    (hr : (Builtin.append_ #[t, t'] o.type #[v, y]).run P w = .ok v' w') (h : wpList P ops Q rest (a.put o.dst v') w') : wpList P ops Q (o :: rest) a w :=
  wpList_plain hgd fun _ hK => by
    unfold Oper.wp execOp
    simp only [ho, resolve, invoke, builtin, Sem.run_bind, Sem.run_pure, Result.andThen_ok, List.map_toArray, List.map_cons, List.map_nil, hs, hx, hr]
    exact hK _ _ h

/-- a table, appended to an empty one of the call's own -/
theorem append_tab (w : World) (b off len cap : Nat) (cs : List Cur) (hT : Tab w (some ⟨b, off, none⟩) len cs) (h1 : 1 ≤ len) (hl : len ≤ 1000) :
    ∃ g c w', (Builtin.append_ #[22, 22] 22 #[.slice (some ⟨w.heap.size, 0, none⟩) 0 0, .slice (some ⟨b, off, none⟩) len cap]).run Tryz.prog (w.alloc (.cells #[] 55)) = .ok (.slice (some ⟨g, 0, none⟩) len c) w' ∧
      w'.ownsRow w.heap.size 55 3 (.slice (some ⟨g, 0, none⟩) len c) len (cells3 cs) ∧ Below w.heap.size w w' := by
  obtain ⟨i0, hi, hz0, hz1, hz2⟩ := info_parts Tryz.info30
  have hb0 : Below w.heap.size w (w.alloc (.cells #[] 55)) := (Below.refl _ _).alloc (Nat.le_refl _) _
  have hown0 : (w.alloc (.cells #[] 55)).ownsRow w.heap.size 55 3 (.slice (some ⟨w.heap.size, 0, none⟩) 0 0) 0 [] :=
    ⟨rfl, .inr ⟨w.heap.size, 0, #[], rfl, Nat.le_refl _, heap_alloc_new w _, Nat.le_refl _, by simp [maxLen], rfl, rfl⟩⟩
  have hT1 := hT.kept hb0
  obtain ⟨v', w', hrun, hown', hgrow, _⟩ := run_append_own (P := Tryz.prog) (w.alloc (.cells #[] 55)) w.heap.size 22 22 55 i0 (.agg #[.string ⟨#[]⟩, .int .i64 0, .int .i64 0]) 3 32 Tryz.underlying22 hi hz0 hz1 hz2 rfl (by decide)
    _ 0 [] hown0 ⟨b, off, none⟩ len cap (cells3 cs) (by rw [cells3_len, hT.1]) (fun j u hu => by rw [Go.WideShapes.add_plain]; exact hT1.cells j u hu) (cells3_one cs) (by unfold maxLen; omega) (by omega) (by simp)
  rw [Nat.zero_add, List.nil_append] at hown'
  obtain ⟨g, c, rfl⟩ : ∃ g c, v' = .slice (some ⟨g, 0, none⟩) len c := by
    rcases hown'.2 with ⟨_, h0⟩ | ⟨g, cap, cur, e, _⟩
    · omega
    · exact ⟨g, cap, e⟩
  exact ⟨g, c, w', hrun, hown', hb0.grown hgrow (by simp) (fun k hk => by simp [Value.ownBlock] at hk; omega)⟩

def Cloned (cs : List Cur) (len : Nat) (w : World) (e : Ending) (w' : World) : Prop :=
  ∃ g c, e = .returned (.slice (some ⟨g, 0, none⟩) len c) ∧ w'.ownsRow w.heap.size 55 3 (.slice (some ⟨g, 0, none⟩) len c) len (cells3 cs) ∧ Below w.heap.size w w'
set_option maxHeartbeats 1000000 in
theorem clone_any (b off len cap : Nat) (cs : List Cur) (w : World) (hT : Tab w (some ⟨b, off, none⟩) len cs) (h1 : 1 ≤ len) (hl : len ≤ 1000) :
    Calls Tryz.prog 73 #[.slice (some ⟨b, off, none⟩) len cap] w (Cloned cs len w) := by
  obtain ⟨g, c, w', hrun, hown, hb⟩ := append_tab w b off len cap cs hT h1 hl
  replace hrun := Lib.hid hrun
  replace hown := Lib.hid hown
  replace hb := Lib.hid hb
  replace hT := Lib.hid hT
  have heq : ∀ w, (binOp BinOp.eql 22 (.slice (some ⟨b, off, none⟩) len cap) (.slice none 0 0)).run Tryz.prog w = .ok (.bool false) w := fun w => by
    rw [Lib.run_eql_slice_nil w 22 55 _ _ _ _ _ Tryz.underlying22]; rfl
  go_enter Tryz.func73, Tryz.ntmps73
  go_wp2_with (at_builtin; refine wpList_apx rfl _ _ _ _ rfl _ _ _ _ rfl rfl hrun.out ?_)
  go_ret
  exact ⟨g, c, rfl, hown.out, hb.out⟩

end Go.Proofs.YtiehbbhjpcnbnaaGreat
namespace Go.Proofs.YtiehbbhjpcnbnaaGreat
open Go.RowKit
set_option linter.unusedVariables false

theorem curOk_set {cs : List Cur} {k : Nat} {c : Cur} (h : ∀ i, CurOk (cAt cs i)) (hc : CurOk c) (i : Nat) : CurOk (cAt (cs.set k c) i) := by
  by_cases e : k = i
  · subst e
    by_cases hk : k < cs.length
    · unfold cAt; rw [List.getD_eq_getElem?_getD, List.getElem?_set_self hk]; exact hc
    · rw [List.set_eq_of_length_le (by omega)]; exact h k
  · unfold cAt; rw [List.getD_eq_getElem?_getD, List.getElem?_set_ne e, ← List.getD_eq_getElem?_getD]; exact h i

/-- a table of its own, or none -/
def WithOut (cs : List Cur) (len : Nat) (w : World) (e : Ending) (w' : World) : Prop :=
  Below w.heap.size w w' ∧ ((¬ chkT cs = 0 ∧ e = .returned (.tuple #[.slice none 0 0, .int .i64 1])) ∨
    (chkT cs = 0 ∧ ∃ g c, e = .returned (.tuple #[.slice (some ⟨g, 0, none⟩) len c, .int .i64 0]) ∧ Tab w' (some ⟨g, 0, none⟩) len cs ∧ w.heap.size ≤ g))

end Go.Proofs.YtiehbbhjpcnbnaaGreat
namespace Go.Proofs.YtiehbbhjpcnbnaaGreat
open Go.RowKit
set_option linter.unusedVariables false

def eur : Cur := ⟨⟨#[69, 85, 82]⟩, 10000, 0⟩
def usd : Cur := ⟨⟨#[85, 83, 68]⟩, 12500, 200⟩
def euro : List Cur := [eur, usd]

theorem cap_lit (a b c : UInt8) (ha : 65 ≤ a.toNat ∧ a.toNat ≤ 90) (hb : 65 ≤ b.toNat ∧ b.toNat ≤ 90) (hc : 65 ≤ c.toNat ∧ c.toNat ≤ 90) : Cap3 ⟨#[a, b, c]⟩ := by
  refine ⟨rfl, fun i hi => ?_⟩
  rcases (by omega : i = 0 ∨ i = 1 ∨ i = 2) with rfl | rfl | rfl
  · exact ⟨(by decide : 0 < 3), ha⟩
  · exact ⟨(by decide : 1 < 3), hb⟩
  · exact ⟨(by decide : 2 < 3), hc⟩
theorem cap_eur : Cap3 eur.code := cap_lit 69 85 82 (by decide) (by decide) (by decide)
theorem cap_usd : Cap3 usd.code := cap_lit 85 83 68 (by decide) (by decide) (by decide)
theorem eur_usd : eur.code ≠ usd.code := by
  intro h
  have : (#[69, 85, 82] : Array UInt8) = #[85, 83, 68] := congrArg ByteArray.data h
  revert this
  decide
theorem miss_cap {s : ByteArray} (h : Cap3 s) : missB s = false := by unfold missB; simp [h]

theorem chk_two (a b : Cur) (ha : Cap3 a.code) (hb : Cap3 b.code) (hne : a.code ≠ b.code) (oa : oobB a = false) (ob : oobB b = false) (hB : baseB a = true) : chkT [a, b] = 0 := by
  unfold chkT
  rw [if_neg (by simp), if_neg (by simp [missC, miss_cap ha, miss_cap hb]), if_neg, if_neg]
  · rintro (h | h)
    · simp [oa, ob] at h
    · have : baseB (cAt [a, b] 0) = true := hB
      rw [this] at h
      cases h
  · rw [tw_no]
    · simp
    · rintro ⟨j, hj, i, hi, h⟩
      simp at hj
      obtain rfl : j = 1 := by omega
      obtain rfl : i = 0 := by omega
      exact hne h
theorem chk_euro : chkT euro = 0 := chk_two eur usd cap_eur cap_usd eur_usd (by decide) (by decide) (by decide)
theorem chk_rate : chkT (euro.set 1 { cAt euro 1 with rate := 7 }) = 0 := chk_two eur ⟨usd.code, 7, 200⟩ cap_eur cap_usd eur_usd (by decide) (by decide) (by decide)
theorem chk_cut : ¬ chkT (euro.set 0 { cAt euro 0 with cut := 1 }) = 0 := fun h => by
  have h1 := (chk_ok h).2.2.2
  revert h1
  decide
theorem find_usd : findIx ⟨#[85, 83, 68]⟩ euro = some 1 := findIx_some _ euro 1 (by decide) rfl (fun i hi => by
  obtain rfl : i = 0 := by omega
  exact eur_usd)

theorem tab_lit (w : World) : Tab (w.alloc (.cells #[.string ⟨#[69, 85, 82]⟩, .int .i64 10000, .int .i64 0, .string ⟨#[85, 83, 68]⟩, .int .i64 12500, .int .i64 200] 55)) (some ⟨w.heap.size, 0, none⟩) 2 euro := by
  refine ⟨rfl, fun i => ?_, by decide, .inr ⟨w.heap.size, 0, rfl, by simp, fun i hi => ?_⟩⟩
  · rcases (by omega : i = 0 ∨ i = 1 ∨ 2 ≤ i) with rfl | rfl | h
    · exact ⟨by decide, ⟨by decide, by decide⟩, ⟨by decide, by decide⟩⟩
    · exact ⟨by decide, ⟨by decide, by decide⟩, ⟨by decide, by decide⟩⟩
    · unfold cAt
      rw [List.getD_eq_getElem?_getD, List.getElem?_eq_none (by simpa [euro] using h)]
      exact ⟨by decide, ⟨by decide, by decide⟩, ⟨by decide, by decide⟩⟩
  · rcases (by omega : i = 0 ∨ i = 1) with rfl | rfl
    · refine ⟨?_, ?_, ?_⟩ <;> go_simp <;> rfl
    · refine ⟨?_, ?_, ?_⟩ <;> go_simp <;> rfl
theorem curOk_zero : CurOk Cur.zero := ⟨by decide, ⟨by decide, by decide⟩, ⟨by decide, by decide⟩⟩
theorem tab_nil (w : World) : Tab w none 0 [] := ⟨rfl, fun i => by rw [show cAt [] i = Cur.zero by simp [cAt]]; exact curOk_zero, by decide, .inl rfl⟩

theorem aw1 (w : World) (p : Option Addr) (h : Tab w p 2 euro) : Calls Tryz.prog 118 #[.slice p 2 2, .int .i64 1, .int .i64 100] w fun e w' => e = .returned (.tuple #[.int .i64 122, .int .i64 0]) ∧ Below w.heap.size w w' :=
  worth_any p 2 2 euro 1 100 w h (by decide) ⟨by decide, by decide⟩ (by decide)
theorem aw2 (w : World) (p : Option Addr) (h : Tab w p 2 euro) : Calls Tryz.prog 118 #[.slice p 2 2, .int .i64 1, .int .i64 (-100)] w fun e w' => e = .returned (.tuple #[.int .i64 (-128), .int .i64 0]) ∧ Below w.heap.size w w' :=
  worth_any p 2 2 euro 1 (-100) w h (by decide) ⟨by decide, by decide⟩ (by decide)
theorem aw3 (w : World) (p : Option Addr) (h : Tab w p 2 euro) : Calls Tryz.prog 120 #[.slice p 2 2, .int .i64 1, .int .i64 (-100)] w fun e w' => e = .returned (.tuple #[.int .i64 (-125), .int .i64 0]) ∧ Below w.heap.size w w' :=
  plain_any p 2 2 euro 1 (-100) w h (by decide) ⟨by decide, by decide⟩ (by decide)
theorem aw5 (w : World) (p : Option Addr) : Calls Tryz.prog 118 #[.slice p 2 2, .int .i64 2, .int .i64 1] w fun e w' => e = .returned (.tuple #[.int .i64 0, .int .i64 1]) ∧ w = w' :=
  worth_no p 2 2 2 1 w (by decide)
theorem aw8 (w : World) (p : Option Addr) (h : Tab w p 2 euro) : Calls Tryz.prog 124 #[.slice p 2 2, .string ⟨#[85, 83, 68]⟩] w fun e w' => e = .returned (.tuple #[.int .i64 1, .bool true]) ∧ Below w.heap.size w w' := by
  have := find_any p 2 2 euro ⟨#[85, 83, 68]⟩ w h
  rw [find_usd] at this
  exact this
theorem aw9 (w : World) (p : Option Addr) (h : Tab w p 2 euro) : Calls Tryz.prog 72 #[.slice p 2 2] w fun e w' => e = .returned (.int .i64 0) ∧ Below w.heap.size w w' := by
  have := check_any p 2 2 euro w h
  rw [chk_euro] at this
  exact this
theorem aw10 (w : World) : Calls Tryz.prog 72 #[.slice none 0 0] w fun e w' => e = .returned (.int .i64 4) ∧ Below w.heap.size w w' := by
  have := check_any none 0 0 [] w (tab_nil w)
  rw [show chkT [] = 4 by unfold chkT; rw [if_pos (by simp)]] at this
  exact this


end Go.Proofs.YtiehbbhjpcnbnaaGreat
namespace Go.Proofs.YtiehbbhjpcnbnaaGreat
open Go.RowKit
set_option linter.unusedVariables false

/-- the operations that stand ahead of number i in every order -/
def deps (md : Region.Mode) (ops : Array Oper) (i : Nat) : List Nat := ((ops[i]?).map fun o => (o.after.toList.filter (Region.binds md)).map (·.on)).getD []
theorem ready_mem {md : Region.Mode} {ops : Array Oper} {listed : Array Bool} {i : Nat} : i ∈ Region.ready md ops listed ↔ i < ops.size ∧ listed.getD i true = false ∧ ∀ j ∈ deps md ops i, listed.getD j false = true := by
  unfold Region.ready deps
  rw [List.mem_filter, List.mem_range]
  constructor
  · rintro ⟨h1, h2⟩
    rw [Bool.and_eq_true] at h2
    obtain ⟨h2, h3⟩ := h2
    refine ⟨h1, by simpa using h2, fun j hj => ?_⟩
    rw [Array.getElem?_eq_getElem h1] at h3 hj
    simp only [Option.map_some, Option.getD_some] at h3 hj
    obtain ⟨e, he, rfl⟩ := List.mem_map.1 hj
    obtain ⟨he1, he2⟩ := List.mem_filter.1 he
    rw [Array.all_eq_true'] at h3
    have := h3 e (by simpa using he1)
    rw [he2] at this
    simpa using this
  · rintro ⟨h1, h2, h3⟩
    refine ⟨h1, ?_⟩
    rw [Array.getElem?_eq_getElem h1] at h3 ⊢
    simp only [Option.map_some, Option.getD_some] at h3 ⊢
    rw [h2]
    simp only [Bool.not_false, Bool.true_and]
    rw [Array.all_eq_true']
    intro e he
    cases hb : Region.binds md e with
    | false => rfl
    | true =>
      have := h3 e.on (List.mem_map.2 ⟨e, List.mem_filter.2 ⟨by simpa using he, hb⟩, rfl⟩)
      simpa using this
/-- how many of the first n are not listed -/
def lft (listed : Array Bool) : Nat → Nat
  | 0 => 0
  | n + 1 => lft listed n + (if listed.getD n true = false then 1 else 0)
theorem lft_le (listed : Array Bool) : ∀ n, lft listed n ≤ n
  | 0 => Nat.le_refl _
  | n + 1 => by unfold lft; have := lft_le listed n; split <;> omega
theorem set_true {listed : Array Bool} {i j : Nat} : (listed.setIfInBounds i true).getD j true = if j = i then true else listed.getD j true := by
  simp only [Array.getD_eq_getD_getElem?, Array.getElem?_setIfInBounds]
  split
  · rename_i h; subst h; split <;> simp_all
  · rename_i h; rw [if_neg (Ne.symm h)]
theorem set_false {listed : Array Bool} {i j : Nat} (h : (listed.setIfInBounds i true).getD j false = true) : listed.getD j false = true ∨ j = i := by
  simp only [Array.getD_eq_getD_getElem?, Array.getElem?_setIfInBounds] at h ⊢
  split at h
  · rename_i e; exact .inr e.symm
  · exact .inl h
theorem lft_set {listed : Array Bool} {i : Nat} (h : listed.getD i true = false) : ∀ n, lft (listed.setIfInBounds i true) n + (if i < n then 1 else 0) = lft listed n
  | 0 => rfl
  | n + 1 => by
    have := lft_set h n
    unfold lft
    rw [set_true]
    by_cases e : n = i
    · subst e
      rw [if_pos rfl, if_pos (by omega : n < n + 1), if_pos h]
      rw [if_neg (by omega : ¬ n < n)] at this
      simp; omega
    · rw [if_neg e]
      by_cases e2 : i < n
      · rw [if_pos (by omega : i < n + 1)]
        rw [if_pos e2] at this
        omega
      · rw [if_neg (by omega : ¬ i < n + 1)]
        rw [if_neg e2] at this
        omega
theorem lft_pos {listed : Array Bool} {i n : Nat} (h : listed.getD i true = false) (hi : i < n) : 0 < lft listed n := by
  have := lft_set h n
  rw [if_pos hi] at this
  omega
theorem all_listed {md : Region.Mode} {ops : Array Oper} {listed : Array Bool} (hs : listed.size = ops.size) (hd : ((List.range ops.size).all fun i => (deps md ops i).all (· < i)) = true) (hr : Region.ready md ops listed = []) :
    ∀ i, i < ops.size → listed.getD i false = true := by
  intro i
  induction i using Nat.strongRecOn with
  | _ i ih =>
    intro hi
    cases h : listed.getD i false with
    | true => rfl
    | false =>
      exfalso
      have h2 : listed.getD i true = false := by
        simp only [Array.getD_eq_getD_getElem?, Array.getElem?_eq_getElem (show i < listed.size by omega), Option.getD_some] at h ⊢
        exact h
      have : i ∈ Region.ready md ops listed := ready_mem.2 ⟨hi, h2, fun j hj => by
        have hdi := List.all_eq_true.1 (List.all_eq_true.1 hd i (List.mem_range.2 hi)) j hj
        have hji : j < i := by simpa using hdi
        exact ih j hji (by omega)⟩
      rw [hr] at this
      cases this
/-- one more is listed -/
def add (L : Nat → Bool) (i : Nat) : Nat → Bool := fun j => L j || decide (j = i)
theorem add_iff {L : Nat → Bool} {i j : Nat} : add L i j = true ↔ L j = true ∨ j = i := by unfold add; simp
theorem set_add {listed : Array Bool} {i : Nat} (hi : i < listed.size) : (fun j => (listed.setIfInBounds i true).getD j false) = add (fun j => listed.getD j false) i := by
  funext j
  unfold add
  simp only [Array.getD_eq_getD_getElem?, Array.getElem?_setIfInBounds]
  by_cases e : i = j
  · subst e; simp [hi]
  · rw [if_neg e]; simp [Ne.symm e]
theorem wpAny_keeps {P : Program} {md : Region.Mode} {ops : Array Oper} {Q : Exit → Act → World → Prop} (I : (Nat → Bool) → Act → World → Prop)
    (hd : ((List.range ops.size).all fun i => (deps md ops i).all (· < i)) = true)
    (hstep : ∀ L a w i, i < ops.size → L i = false → I L a w → (∀ j ∈ deps md ops i, L j = true) → wpOp P ops Q i (fun a' w' => I (add L i) a' w') a w)
    (hend : ∀ L a w, I L a w → (∀ i, i < ops.size → L i = true) → Q .normal a w) :
    ∀ fuel listed a w, listed.size = ops.size → lft listed ops.size ≤ fuel → I (fun j => listed.getD j false) a w → wpAny P md ops Q fuel listed a w := by
  intro fuel
  induction fuel with
  | zero =>
    intro listed a w hs hf hI
    have hr : Region.ready md ops listed = [] := by
      cases h : Region.ready md ops listed with
      | nil => rfl
      | cons i r =>
        obtain ⟨h1, h2, _⟩ := ready_mem.1 (show i ∈ Region.ready md ops listed by rw [h]; exact List.mem_cons_self ..)
        have := lft_pos h2 h1
        omega
    exact ⟨hr, hend _ _ _ hI (all_listed hs hd hr)⟩
  | succ fuel ih =>
    intro listed a w hs hf hI
    refine ⟨fun hr => hend _ _ _ hI (all_listed hs hd hr), fun i hi => ?_⟩
    obtain ⟨h1, h2, h3⟩ := ready_mem.1 hi
    refine wpOp_mono (fun a' w' h => ?_) (hstep _ a w i h1 (by
      simp only [Array.getD_eq_getD_getElem?, Array.getElem?_eq_getElem (show i < listed.size by omega), Option.getD_some] at h2 ⊢
      exact h2) hI h3)
    refine ih _ a' w' (by simpa using hs) ?_ (by rw [set_add (by omega)]; exact h)
    have := lft_set h2 ops.size
    rw [if_pos h1] at this
    omega
theorem wp_region_keeps {P : Program} {id : Nat} {ops : Array Oper} {Q : Exit → Act → World → Prop} {a : Act} {w : World} (hm : P.follows .mixedOrders = true) (I : (Nat → Bool) → Act → World → Prop)
    (hd : ((List.range ops.size).all fun i => (deps .any ops i).all (· < i)) = true)
    (hbeg : I (fun _ => false) a w.drew)
    (hstep : ∀ L a w i, i < ops.size → L i = false → I L a w → (∀ j ∈ deps .any ops i, L j = true) → wpOp P ops Q i (fun a' w' => I (add L i) a' w') a w)
    (hend : ∀ L a w, I L a w → (∀ i, i < ops.size → L i = true) → Q .normal a w) : (Code.region id ops true).wp P Q a w := by
  refine wp_region_any hm ?_
  refine wpAny_keeps I hd hstep hend _ _ _ _ (by simp) (lft_le _ _) ?_
  have e : (fun j => (Array.replicate ops.size false).getD j false) = fun _ => false := by
    funext j
    simp [Array.getElem?_replicate]
    split <;> simp
  rw [e]
  exact hbeg

theorem add_ne {L : Nat → Bool} {n j : Nat} (h : add L n j = true) (hj : j ≠ n) : L j = true := (add_iff.1 h).resolve_right hj
theorem add_old {L : Nat → Bool} {n j : Nat} (h : L j = true) : add L n j = true := add_iff.2 (.inl h)
end Go.Proofs.YtiehbbhjpcnbnaaGreat
