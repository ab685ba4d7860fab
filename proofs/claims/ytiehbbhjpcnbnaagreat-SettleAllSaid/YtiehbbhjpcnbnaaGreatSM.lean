/- Instructions and a bank that came in: read off what was handed over. -/
import Derived.Test.YtiehbbhjpcnbnaaGreatSH
import Derived.Test.YtiehbbhjpcnbnaaGreatMAT
import Derived.Test.YtiehbbhjpcnbnaaGreatMAX
namespace Go.Proofs.YtiehbbhjpcnbnaaGreat
open Go.RowKit
set_option linter.unusedVariables false

def dlFields : Array Field := #[⟨"Id", 3, 0, false, "", "", 0⟩, ⟨"A", 3, 1, false, "", "", 8⟩, ⟨"B", 3, 2, false, "", "", 16⟩, ⟨"SellCur", 3, 3, false, "", "", 24⟩, ⟨"BuyCur", 3, 4, false, "", "", 32⟩, ⟨"Sell", 2, 5, false, "", "", 40⟩, ⟨"Buy", 2, 6, false, "", "", 48⟩]
theorem und44 : Tryz.prog.underlying 44 = some (.struct dlFields) := by kernel_rfl
theorem cellsOfDl : Tryz.prog.cellsOf 44 = 7 := by kernel_rfl
theorem bytesOfDl : Tryz.prog.bytesOf 44 = 56 := by kernel_rfl
def bkFields : Array Field := #[⟨"T", 22, 0, false, "", "", 0⟩, ⟨"Limits", 23, 1, false, "", "", 24⟩, ⟨"Deals", 24, 2, false, "", "", 48⟩, ⟨"In", 25, 3, false, "", "", 72⟩]
theorem undBk : Tryz.prog.underlying 27 = some (.struct bkFields) := by kernel_rfl
theorem cellsOfBk : Tryz.prog.cellsOf 27 = 4 := by kernel_rfl
theorem cellsOf22 : Tryz.prog.cellsOf 22 = 1 := by kernel_rfl
theorem cellsOf23 : Tryz.prog.cellsOf 23 = 1 := by kernel_rfl
theorem cellsOf24 : Tryz.prog.cellsOf 24 = 1 := by kernel_rfl
section
variable {H : Type} {enc : TypeId × Value → H} {w : World}
set_option maxRecDepth 100000 in
/-- an instruction, read -/
theorem dl_open {fuel : Nat} {cs : List Value} {x : DataW H × List MemPlace} (h : DataW.trod enc Tryz.prog w 0 (fun _ => true) true fuel 44 cs = some x) :
    ∃ d : Dd.Dl, cs = [.int .i64 d.id, .int .i64 d.a, .int .i64 d.b, .int .i64 d.sc, .int .i64 d.bc, .int .i64 d.s, .int .i64 d.t] ∧ d.In := by
  obtain ⟨xs, n, _, hx, hl, hlen, hf⟩ := DataW.trod_struct und44 h
  rw [cellsOfDl] at hl
  match cs, hl with
  | [v0, v1, v2, v3, v4, v5, v6], _ =>
    match xs, hlen with
    | [y0, y1, y2, y3, y4, y5, y6], _ =>
      have h0 := hf 0 ⟨"Id", 3, 0, false, "", "", 0⟩ rfl
      have h1 := hf 1 ⟨"A", 3, 1, false, "", "", 8⟩ rfl
      have h2 := hf 2 ⟨"B", 3, 2, false, "", "", 16⟩ rfl
      have h3 := hf 3 ⟨"SellCur", 3, 3, false, "", "", 24⟩ rfl
      have h4 := hf 4 ⟨"BuyCur", 3, 4, false, "", "", 32⟩ rfl
      have h5 := hf 5 ⟨"Sell", 2, 5, false, "", "", 40⟩ rfl
      have h6 := hf 6 ⟨"Buy", 2, 6, false, "", "", 48⟩ rfl
      simp only [cellsOfInt3, cellsOfInt2, List.drop_zero, List.drop_succ_cons, List.take_succ_cons, List.take_zero] at h0 h1 h2 h3 h4 h5 h6
      obtain ⟨a0, e0, _, w0⟩ := DataW.trod_int Tryz.underlying3 h0
      obtain ⟨a1, e1, _, w1⟩ := DataW.trod_int Tryz.underlying3 h1
      obtain ⟨a2, e2, _, w2⟩ := DataW.trod_int Tryz.underlying3 h2
      obtain ⟨a3, e3, _, w3⟩ := DataW.trod_int Tryz.underlying3 h3
      obtain ⟨a4, e4, _, w4⟩ := DataW.trod_int Tryz.underlying3 h4
      obtain ⟨a5, e5, _, w5⟩ := DataW.trod_int Tryz.underlying2 h5
      obtain ⟨a6, e6, _, w6⟩ := DataW.trod_int Tryz.underlying2 h6
      simp only [List.cons.injEq, and_true] at e0 e1 e2 e3 e4 e5 e6
      subst e0; subst e1; subst e2; subst e3; subst e4; subst e5; subst e6
      exact ⟨⟨a0, a1, a2, a3, a4, a5, a6⟩, rfl, ⟨bounds_i64 w0, bounds_i64 w1, bounds_i64 w2, bounds_i64 w3, bounds_i64 w4, bounds_i64 w5, bounds_i64 w6⟩⟩
set_option maxRecDepth 100000 in
/-- instructions, read -/
theorem dls_open {fuel : Nat} {a : Option Addr} {len cap : Nat} {x : DataW H × List MemPlace} (h : DataW.trod enc Tryz.prog w 0 (fun _ => true) true fuel 24 [.slice a len cap] = some x) :
    ∃ ds : List Dd.Dl, DlRow w a len ds := by
  rcases Go.Deep.open_slice Tryz.underlying24 h with ⟨hcs, _⟩ | ⟨ad, l, c, m, n, D, Pl, hcs, _, hl, hm, hmm, hx, hi⟩
  · simp at hcs
    obtain ⟨rfl, rfl, rfl⟩ := hcs
    exact ⟨[], rfl, fun q hq => (by cases hq), .inl rfl⟩
  · simp at hcs
    obtain ⟨rfl, rfl, rfl⟩ := hcs
    have hml : len ≤ m := by rw [hmm]; simpa using hl
    have hone : ∀ i, i < len → ∃ d : Dd.Dl, (∀ j, j < 7 → w.cell? (ad.add (i * 7 + j)) = some (([.int .i64 d.id, .int .i64 d.a, .int .i64 d.b, .int .i64 d.sc, .int .i64 d.bc, .int .i64 d.s, .int .i64 d.t] : List Value).getD j undef)) ∧ d.In := by
      intro i hil
      obtain ⟨cs', hc, ht⟩ := hi i (by omega)
      rw [cellsOfDl] at hc
      obtain ⟨d, rfl, hq⟩ := dl_open ht
      obtain ⟨_, _, hat⟩ := World.cells?_some hc
      refine ⟨d, fun j hj => ?_, hq⟩
      have g := hat j (by simpa using hj)
      rw [Go.Deep.add_add] at g
      rw [g]
      match j, hj with
      | 0, _ => rfl
      | 1, _ => rfl
      | 2, _ => rfl
      | 3, _ => rfl
      | 4, _ => rfl
      | 5, _ => rfl
      | 6, _ => rfl
    let f : Nat → Dd.Dl := fun i => if h : i < len then Classical.choose (hone i h) else ⟨0, 0, 0, 0, 0, 0, 0⟩
    have hf : ∀ i, i < len → (∀ j, j < 7 → w.cell? (ad.add (i * 7 + j)) = some (([.int .i64 (f i).id, .int .i64 (f i).a, .int .i64 (f i).b, .int .i64 (f i).sc, .int .i64 (f i).bc, .int .i64 (f i).s, .int .i64 (f i).t] : List Value).getD j undef)) ∧ (f i).In := by
      intro i h
      have e : f i = Classical.choose (hone i h) := dif_pos h
      rw [e]
      exact Classical.choose_spec (hone i h)
    refine ⟨(List.range len).map f, by simp, fun q hq => ?_, ?_⟩
    · obtain ⟨i, hi', rfl⟩ := List.mem_map.1 hq
      exact (hf i (List.mem_range.1 hi')).2
    by_cases h0 : len = 0
    · exact .inl h0
    · obtain ⟨b, off, spot⟩ := ad
      have c0 := (hf 0 (by omega)).1 0 (by omega)
      have hspot : spot = none := by simpa [Addr.add] using World.cell?_spot c0
      subst hspot
      refine .inr ⟨b, off, rfl, ?_, fun i q hq => ?_⟩
      · have := World.block_lt_of_cell? w _ c0
        rwa [Go.WideShapes.add_plain] at this
      · have hil : i < len := by have := (List.getElem?_eq_some_iff.1 hq).1; simpa using this
        rw [List.getElem?_map, List.getElem?_range hil] at hq
        injection hq with hq
        subst hq
        have g := (hf i hil).1
        have g0 := g 0 (by omega)
        have g1 := g 1 (by omega)
        have g2 := g 2 (by omega)
        have g3 := g 3 (by omega)
        have g4 := g 4 (by omega)
        have g5 := g 5 (by omega)
        have g6 := g 6 (by omega)
        rw [Go.WideShapes.add_plain] at g0 g1 g2 g3 g4 g5 g6
        exact ⟨g0, g1, g2, g3, g4, g5, g6⟩
theorem a_slice {T E : TypeId} {fuel : Nat} {v : Value} {x : DataW H × List MemPlace} (hT : Tryz.prog.underlying T = some (.slice E)) (h : DataW.trod enc Tryz.prog w 0 (fun _ => true) true fuel T [v] = some x) : ∃ p len cap, v = Value.slice p len cap := by
  rcases Go.Deep.open_slice hT h with ⟨hcs, _⟩ | ⟨ad, l, c, m, n, D, Pl, hcs, _⟩
  · exact ⟨none, 0, 0, by simpa using hcs⟩
  · exact ⟨some ad, l, c, by simpa using hcs⟩
def BV.arr (x : BV) : Array Value := #[.slice x.p1 x.n1 x.c1, .slice x.p2 x.n2 x.c2, .slice x.p3 x.n3 x.c3, .slice x.p4 x.n4 x.c4]
set_option maxRecDepth 100000 in
/-- a bank, read -/
theorem bank_open {fuel : Nat} {cs : List Value} {x : DataW H × List MemPlace} (h : DataW.trod enc Tryz.prog w 0 (fun _ => true) true fuel 27 cs = some x) (hw : ∀ n ∈ x.1.weights Tryz.prog 27, n ≤ 140737488351232) :
    ∃ b : BV, cs = b.arr.toList ∧ b.In w := by
  obtain ⟨xs, n, _, hx, hl, hlen, hf⟩ := DataW.trod_struct undBk h
  rw [cellsOfBk] at hl
  match cs, hl with
  | [v0, v1, v2, v3], _ =>
    match xs, hlen with
    | [y0, y1, y2, y3], _ =>
      have h0 := hf 0 ⟨"T", 22, 0, false, "", "", 0⟩ rfl
      have h1 := hf 1 ⟨"Limits", 23, 1, false, "", "", 24⟩ rfl
      have h2 := hf 2 ⟨"Deals", 24, 2, false, "", "", 48⟩ rfl
      have h3 := hf 3 ⟨"In", 25, 3, false, "", "", 72⟩ rfl
      simp only [cellsOf22, cellsOf23, cellsOf24, cellsOfPsts, List.drop_zero, List.drop_succ_cons, List.take_succ_cons, List.take_zero] at h0 h1 h2 h3
      obtain ⟨p1, n1, c1, rfl⟩ := a_slice Tryz.underlying22 h0
      obtain ⟨p2, n2, c2, rfl⟩ := a_slice Tryz.underlying23 h1
      obtain ⟨p3, n3, c3, rfl⟩ := a_slice Tryz.underlying24 h2
      obtain ⟨p4, n4, c4, rfl⟩ := a_slice Tryz.underlying25 h3
      have hW : ∀ (n : Nat), (n ∈ y0.1.weights Tryz.prog 22 ∨ n ∈ y1.1.weights Tryz.prog 23 ∨ n ∈ y2.1.weights Tryz.prog 24 ∨ n ∈ y3.1.weights Tryz.prog 25) → n ≤ 140737488351232 := fun n hn => hw n (by
        subst hx
        simp only [List.map_cons, List.map_nil, DataW.weights, undBk, bkFields, DataW.weightsEach, List.mem_append]
        rcases hn with h | h | h | h
        · exact .inl h
        · exact .inr (.inl h)
        · exact .inr (.inr (.inl h))
        · exact .inr (.inr (.inr (.inl h))))
      obtain ⟨cs, t0⟩ := tab_open (a := p1) (len := n1) (cap := c1) h0 (fun n hn => hW n (.inl hn))
      obtain ⟨ls, t1⟩ := lims_open (a := p2) (len := n2) (cap := c2) h1 (fun n hn => hW n (.inr (.inl hn)))
      obtain ⟨ds, t2⟩ := dls_open h2
      obtain ⟨ps, t3, _⟩ := prow_open h3 (fun n hn => hW n (.inr (.inr (.inr hn))))
      exact ⟨⟨p1, n1, c1, cs, p2, n2, c2, ls, p3, n3, c3, ds, p4, n4, c4, ps⟩, rfl, ⟨t0, t1, t2, t3⟩⟩
end
end Go.Proofs.YtiehbbhjpcnbnaaGreat
