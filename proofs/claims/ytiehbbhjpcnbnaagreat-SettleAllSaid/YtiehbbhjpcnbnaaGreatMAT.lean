/- What comes in: postings, operations, limits.
  The contracts of the law's do, made and large; a guard beside what a law has. -/
import Derived.Test.YtiehbbhjpcnbnaaGreatMAS
import Derived.Deep.Slices
import Derived.Test.YtiehbbhjpcnbnaaGreatRows
import Derived.ProofKit
import Derived.OpenShut
namespace Go.Proofs.YtiehbbhjpcnbnaaGreat
open Go.RowKit Go.ChangeShapes Go.WideShapes Go.ChangeAt
set_option linter.unusedVariables false

def GOp.arr (o : GOp) : Array Value := #[.int .i64 o.Do, .int .i64 o.m, .int .i64 o.c, .int .i64 o.v, .int .i64 o.a, .int .i64 o.b, .slice o.p o.len o.cap]
structure GOp.Ok (o : GOp) (w : World) : Prop where
  m : In64 o.m
  c : In64 o.c
  v : In64 o.v
  a : In64 o.a
  b : In64 o.b
  p : PRow w o.p o.len o.ps
def pstFields : Array Field := #[⟨"Member", 3, 0, false, "", "", 0⟩, ⟨"Cur", 3, 1, false, "", "", 8⟩, ⟨"Amount", 2, 2, false, "", "", 16⟩]
theorem und69 : Tryz.prog.underlying 60 = some (.struct pstFields) := by kernel_rfl
theorem cellsOfPst : Tryz.prog.cellsOf 60 = 3 := by kernel_rfl
def wopFields : Array Field := #[⟨"Do", 3, 0, false, "", "", 0⟩, ⟨"Member", 3, 1, false, "", "", 8⟩, ⟨"Cur", 3, 2, false, "", "", 16⟩, ⟨"Give", 3, 3, false, "", "", 24⟩, ⟨"Amount", 2, 4, false, "", "", 32⟩, ⟨"Given", 2, 5, false, "", "", 40⟩, ⟨"Batch", 25, 6, false, "", "", 48⟩]
theorem cellsOfInt3 : Tryz.prog.cellsOf 3 = 1 := by kernel_rfl
theorem cellsOfInt2 : Tryz.prog.cellsOf 2 = 1 := by kernel_rfl
theorem cellsOfPsts : Tryz.prog.cellsOf 25 = 1 := by kernel_rfl
theorem bytesOfPst : Tryz.prog.bytesOf 60 = 24 := by kernel_rfl
theorem mem_weightsAllL {H : Type} {P : Program} {e : TypeId} {d : DataW H} {n : Nat} (hn : n ∈ d.weights P e) : ∀ {l : List (DataW H)}, d ∈ l → n ∈ DataW.weightsAll P e l
  | x :: r, h => by
    simp only [DataW.weightsAll, List.mem_append]
    rcases List.mem_cons.1 h with rfl | h
    · exact .inl hn
    · exact .inr (mem_weightsAllL hn h)
/-- a row of operations that is read -/
def OpsW (w : World) (p : Option Addr) (len : Nat) (ops : List GOp) : Prop :=
  ops.length = len ∧ len ≤ 140737488351232 ∧ (∀ x ∈ ops, x.Ok w ∧ x.len ≤ 140737488351232) ∧ (len = 0 ∨ ∃ b off, p = some ⟨b, off, none⟩ ∧ b < w.heap.size ∧ ∀ i x, ops[i]? = some x → ∀ j, j < 7 → w.cell? ⟨b, off + i * 7 + j, none⟩ = x.arr[j]?)
theorem GOp.Ok.kept {x : GOp} {w w' : World} (h : x.Ok w) (hb : Below w.heap.size w w') : x.Ok w' := ⟨h.m, h.c, h.v, h.a, h.b, h.p.kept hb⟩
theorem OpsW.kept {w w' : World} {p : Option Addr} {len : Nat} {ops : List GOp} (h : OpsW w p len ops) (hb : Below w.heap.size w w') : OpsW w' p len ops := by
  obtain ⟨h1, h2, h3, h4⟩ := h
  refine ⟨h1, h2, fun x hx => ⟨(h3 x hx).1.kept hb, (h3 x hx).2⟩, h4.imp id ?_⟩
  rintro ⟨b, off, rfl, hlt, hc⟩
  exact ⟨b, off, rfl, Nat.lt_of_lt_of_le hlt hb.size, fun i x hx j hj => (hb.cell (p := ⟨b, off + i * 7 + j, none⟩) hlt).trans (hc i x hx j hj)⟩
theorem OpsW.at {w : World} {p : Option Addr} {len : Nat} {ops : List GOp} (h : OpsW w p len ops) {k : Nat} {x : GOp} (hx : ops[k]? = some x) : ∃ b off, p = some ⟨b, off, none⟩ ∧ w.cell? ⟨b, off + k * 7, none⟩ = some (.int .i64 x.Do) ∧ w.cell? ⟨b, off + k * 7 + 1, none⟩ = some (.int .i64 x.m) ∧
    w.cell? ⟨b, off + k * 7 + 2, none⟩ = some (.int .i64 x.c) ∧ w.cell? ⟨b, off + k * 7 + 3, none⟩ = some (.int .i64 x.v) ∧ w.cell? ⟨b, off + k * 7 + 4, none⟩ = some (.int .i64 x.a) ∧ w.cell? ⟨b, off + k * 7 + 5, none⟩ = some (.int .i64 x.b) ∧ w.cell? ⟨b, off + k * 7 + 6, none⟩ = some (.slice x.p x.len x.cap) := by
  obtain ⟨h1, _, _, h4⟩ := h
  have hk := (List.getElem?_eq_some_iff.1 hx).1
  obtain ⟨b, off, rfl, _, hc⟩ := h4.resolve_left (by omega)
  exact ⟨b, off, rfl, hc k x hx 0 (by omega), hc k x hx 1 (by omega), hc k x hx 2 (by omega), hc k x hx 3 (by omega), hc k x hx 4 (by omega), hc k x hx 5 (by omega), hc k x hx 6 (by omega)⟩
section
variable {H : Type} {enc : TypeId × Value → H} {w : World}
set_option maxRecDepth 100000 in
/-- a posting, read -/
theorem pst_open {fuel : Nat} {cs : List Value} {x : DataW H × List MemPlace} (h : DataW.trod enc Tryz.prog w 0 (fun _ => true) true fuel 60 cs = some x) :
    ∃ q : Pst, cs = [.int .i64 q.m, .int .i64 q.c, .int .i64 q.a] ∧ In64 q.m ∧ In64 q.c ∧ In64 q.a := by
  obtain ⟨xs, n, _, hx, hl, hlen, hf⟩ := DataW.trod_struct und69 h
  rw [cellsOfPst] at hl
  match cs, hl with
  | [v0, v1, v2], _ =>
    match xs, hlen with
    | [y0, y1, y2], _ =>
      have h0 := hf 0 ⟨"Member", 3, 0, false, "", "", 0⟩ rfl
      have h1 := hf 1 ⟨"Cur", 3, 1, false, "", "", 8⟩ rfl
      have h2 := hf 2 ⟨"Amount", 2, 2, false, "", "", 16⟩ rfl
      simp only [cellsOfInt3, cellsOfInt2, List.drop_zero, List.drop_succ_cons, List.take_succ_cons, List.take_zero] at h0 h1 h2
      obtain ⟨a0, e0, _, w0⟩ := DataW.trod_int Tryz.underlying3 h0
      obtain ⟨a1, e1, _, w1⟩ := DataW.trod_int Tryz.underlying3 h1
      obtain ⟨a2, e2, _, w2⟩ := DataW.trod_int Tryz.underlying2 h2
      simp only [List.cons.injEq, and_true] at e0 e1 e2
      subst e0; subst e1; subst e2
      exact ⟨⟨a0, a1, a2⟩, rfl, bounds_i64 w0, bounds_i64 w1, bounds_i64 w2⟩
set_option maxRecDepth 100000 in
/-- postings, read -/
theorem prow_open {fuel : Nat} {a : Option Addr} {len cap : Nat} {x : DataW H × List MemPlace} (h : DataW.trod enc Tryz.prog w 0 (fun _ => true) true fuel 25 [.slice a len cap] = some x) (hw : ∀ n ∈ x.1.weights Tryz.prog 25, n ≤ 140737488351232) :
    ∃ ps : List Pst, PRow w a len ps ∧ len ≤ 140737488351232 := by
  rcases Go.Deep.open_slice Tryz.underlying25 h with ⟨hcs, _⟩ | ⟨ad, l, c, m, n, D, Pl, hcs, _, hl, hm, hmm, hx, hi⟩
  · simp at hcs
    obtain ⟨rfl, rfl, rfl⟩ := hcs
    exact ⟨[], ⟨rfl, fun q hq => (by cases hq), .inl rfl⟩, by omega⟩
  · simp at hcs
    obtain ⟨rfl, rfl, rfl⟩ := hcs
    have hml : len ≤ m := by rw [hmm]; simpa using hl
    have hone : ∀ i, i < len → ∃ q : Pst, (w.cell? (ad.add (i * 3)) = some (.int .i64 q.m) ∧ w.cell? (ad.add (i * 3 + 1)) = some (.int .i64 q.c) ∧ w.cell? (ad.add (i * 3 + 2)) = some (.int .i64 q.a)) ∧ In64 q.m ∧ In64 q.c ∧ In64 q.a := by
      intro i hil
      obtain ⟨cs', hc, ht⟩ := hi i (by omega)
      rw [cellsOfPst] at hc
      obtain ⟨q, rfl, hq⟩ := pst_open ht
      obtain ⟨_, _, hat⟩ := World.cells?_some hc
      have g0 := hat 0 (by omega)
      have g1 := hat 1 (by omega)
      have g2 := hat 2 (by omega)
      rw [Go.Deep.add_add] at g0 g1 g2
      exact ⟨q, ⟨g0, g1, g2⟩, hq⟩
    let f : Nat → Pst := fun i => if h : i < len then Classical.choose (hone i h) else ⟨0, 0, 0⟩
    have hf : ∀ i, i < len → (w.cell? (ad.add (i * 3)) = some (.int .i64 (f i).m) ∧ w.cell? (ad.add (i * 3 + 1)) = some (.int .i64 (f i).c) ∧ w.cell? (ad.add (i * 3 + 2)) = some (.int .i64 (f i).a)) ∧ In64 (f i).m ∧ In64 (f i).c ∧ In64 (f i).a := by
      intro i h
      have e : f i = Classical.choose (hone i h) := dif_pos h
      rw [e]
      exact Classical.choose_spec (hone i h)
    subst hx
    have hmx : len ≤ 140737488351232 := by
      have h1 : ∀ n ∈ (DataW.slice ((List.range len).map D) ((List.range (m - len)).map fun j => D (len + j))).weights Tryz.prog 25, n ≤ 140737488351232 := hw
      simp only [DataW.weights, Tryz.underlying25, List.mem_cons] at h1
      have h2 := h1 _ (.inl rfl)
      rw [bytesOfPst] at h2
      simp only [List.length_map, List.length_range] at h2
      omega
    refine ⟨(List.range len).map f, ⟨by simp, fun q hq => ?_, ?_⟩, hmx⟩
    · obtain ⟨i, hi', rfl⟩ := List.mem_map.1 hq
      exact (hf i (List.mem_range.1 hi')).2
    by_cases h0 : len = 0
    · exact .inl h0
    · obtain ⟨b, off, spot⟩ := ad
      have c0 := (hf 0 (by omega)).1.1
      have hspot : spot = none := by simpa [Addr.add] using World.cell?_spot c0
      subst hspot
      refine .inr ⟨b, off, rfl, ?_, fun i q hq => ?_⟩
      · have := World.block_lt_of_cell? w _ c0
        rwa [Go.WideShapes.add_plain] at this
      · have hil : i < len := by have := (List.getElem?_eq_some_iff.1 hq).1; simpa using this
        rw [List.getElem?_map, List.getElem?_range hil] at hq
        injection hq with hq
        subst hq
        obtain ⟨⟨g0, g1, g2⟩, _⟩ := hf i hil
        rw [Go.WideShapes.add_plain] at g0 g1 g2
        exact ⟨g0, g1, g2⟩
end

section
variable {H : Type} {enc : TypeId × Value → H} {w : World}
def limFields : Array Field := #[⟨"Short", 56, 0, false, "", "", 0⟩, ⟨"All", 2, 1, false, "", "", 24⟩]
theorem und67 : Tryz.prog.underlying 58 = some (.struct limFields) := by kernel_rfl
theorem cellsOfLim : Tryz.prog.cellsOf 58 = 2 := by kernel_rfl
theorem cellsOfI64s : Tryz.prog.cellsOf 56 = 1 := by kernel_rfl
theorem bytesOfLim : Tryz.prog.bytesOf 58 = 32 := by kernel_rfl
theorem bytesOfI64 : Tryz.prog.bytesOf 2 = 8 := by kernel_rfl
set_option maxRecDepth 100000 in
/-- amounts, read -/
theorem seq_open {fuel : Nat} {a : Option Addr} {len cap : Nat} {x : DataW H × List MemPlace} (h : DataW.trod enc Tryz.prog w 0 (fun _ => true) true fuel 56 [.slice a len cap] = some x) (hw : ∀ n ∈ x.1.weights Tryz.prog 56, n ≤ 140737488351232) :
    ∃ zs : List Int, Seq64 w a len zs ∧ len ≤ 140737488351232 := by
  rcases Go.Deep.open_slice Tryz.underlying56 h with ⟨hcs, _⟩ | ⟨ad, l, c, m, n, D, Pl, hcs, _, hl, hm, hmm, hx, hi⟩
  · simp at hcs
    obtain ⟨rfl, rfl, rfl⟩ := hcs
    exact ⟨[], ⟨rfl, fun i => (by rw [List.getD_eq_getElem?_getD, List.getElem?_eq_none (by simp)]; exact (by decide : In64 0)), by omega, .inl rfl⟩, by omega⟩
  · simp at hcs
    obtain ⟨rfl, rfl, rfl⟩ := hcs
    have hml : len ≤ m := by rw [hmm]; simpa using hl
    have hone : ∀ i, i < len → ∃ q : Int, w.cell? (ad.add i) = some (.int .i64 q) ∧ In64 q := by
      intro i hil
      obtain ⟨cs', hc, ht⟩ := hi i (by omega)
      rw [cellsOfInt2] at hc
      obtain ⟨_, hlc, hat⟩ := World.cells?_some hc
      obtain ⟨q, e, _, wf⟩ := DataW.trod_int Tryz.underlying2 ht
      subst e
      have g0 := hat 0 (by omega)
      rw [Go.Deep.add_add] at g0
      refine ⟨q, ?_, bounds_i64 wf⟩
      simpa using g0
    let f : Nat → Int := fun i => if h : i < len then Classical.choose (hone i h) else 0
    have hf : ∀ i, i < len → w.cell? (ad.add i) = some (.int .i64 (f i)) ∧ In64 (f i) := by
      intro i h
      have e : f i = Classical.choose (hone i h) := dif_pos h
      rw [e]
      exact Classical.choose_spec (hone i h)
    subst hx
    have hmx : len ≤ 140737488351232 := by
      have h1 : ∀ n ∈ (DataW.slice ((List.range len).map D) ((List.range (m - len)).map fun j => D (len + j))).weights Tryz.prog 56, n ≤ 140737488351232 := hw
      simp only [DataW.weights, Tryz.underlying56, List.mem_cons] at h1
      have h2 := h1 _ (.inl rfl)
      rw [bytesOfI64] at h2
      simp only [List.length_map, List.length_range] at h2
      omega
    refine ⟨(List.range len).map f, ⟨by simp, fun i => ?_, by omega, ?_⟩, hmx⟩
    · by_cases hi' : i < len
      · rw [range_getD hi']; exact (hf i hi').2
      · rw [List.getD_eq_getElem?_getD, List.getElem?_eq_none (by simp; omega)]; exact (by decide : In64 0)
    by_cases h0 : len = 0
    · exact .inl h0
    · obtain ⟨b, off, spot⟩ := ad
      have c0 := (hf 0 (by omega)).1
      have hspot : spot = none := by simpa [Addr.add] using World.cell?_spot c0
      subst hspot
      refine .inr ⟨b, off, rfl, ?_, fun i hil => ?_⟩
      · have := World.block_lt_of_cell? w _ c0
        rwa [Go.WideShapes.add_plain] at this
      · have := (hf i hil).1
        rw [Go.WideShapes.add_plain] at this
        rw [this, range_getD hil]
set_option maxRecDepth 100000 in
/-- one limit, read -/
theorem lim_open {fuel : Nat} {cs : List Value} {x : DataW H × List MemPlace} (h : DataW.trod enc Tryz.prog w 0 (fun _ => true) true fuel 58 cs = some x) (hw : ∀ n ∈ x.1.weights Tryz.prog 58, n ≤ 140737488351232) :
    ∃ v : LV, cs = [.slice v.p v.n v.cap, .int .i64 v.all] ∧ v.Ok w ∧ v.n ≤ 140737488351232 := by
  obtain ⟨xs, n, _, hx, hl, hlen, hf⟩ := DataW.trod_struct und67 h
  rw [cellsOfLim] at hl
  match cs, hl with
  | [v0, v1], _ =>
    match xs, hlen with
    | [y0, y1], _ =>
      have h0 := hf 0 ⟨"Short", 56, 0, false, "", "", 0⟩ rfl
      have h1 := hf 1 ⟨"All", 2, 1, false, "", "", 24⟩ rfl
      simp only [cellsOfI64s, cellsOfInt2, List.drop_zero, List.drop_succ_cons, List.take_succ_cons, List.take_zero] at h0 h1
      obtain ⟨a1, e1, _, w1⟩ := DataW.trod_int Tryz.underlying2 h1
      simp only [List.cons.injEq, and_true] at e1
      subst e1
      obtain ⟨p, len, cap, rfl⟩ : ∃ p len cap, v0 = Value.slice p len cap := by
        rcases Go.Deep.open_slice Tryz.underlying56 h0 with ⟨hcs, _⟩ | ⟨ad, l, c, m, n, D, Pl, hcs, _⟩
        · exact ⟨none, 0, 0, by simpa using hcs⟩
        · exact ⟨some ad, l, c, by simpa using hcs⟩
      obtain ⟨zs, hz, hn⟩ := seq_open h0 (fun n hn => hw n (by
        subst hx
        simp only [List.map_cons, List.map_nil, DataW.weights, und67, limFields, DataW.weightsEach, List.mem_append]
        exact .inl hn))
      exact ⟨⟨p, len, cap, zs, a1⟩, rfl, ⟨hz, bounds_i64 w1⟩, hn⟩
set_option maxRecDepth 100000 in
/-- limits that came in -/
theorem lims_open {fuel : Nat} {a : Option Addr} {len cap : Nat} {x : DataW H × List MemPlace} (h : DataW.trod enc Tryz.prog w 0 (fun _ => true) true fuel 23 (Value.cells (.slice a len cap)).toList = some x)
    (hw : ∀ n ∈ x.1.weights Tryz.prog 23, n ≤ 140737488351232) : ∃ ls, LRow w a len ls := by
  rcases Go.Deep.open_slice Tryz.underlying23 h with ⟨hcs, _⟩ | ⟨ad, l, c, m, n, D, Pl, hcs, _, hl, hm, hmm, hx, hi⟩
  · simp [Value.cells] at hcs
    obtain ⟨rfl, rfl, rfl⟩ := hcs
    exact ⟨[], rfl, by decide, fun x hx => (by cases hx), .inl rfl⟩
  · simp [Value.cells] at hcs
    obtain ⟨rfl, rfl, rfl⟩ := hcs
    have hml : len ≤ m := by rw [hmm]; simpa using hl
    subst hx
    have hone : ∀ i, i < len → ∃ v : LV, v.Ok w ∧ w.cell? (ad.add (i * 2)) = some (.slice v.p v.n v.cap) ∧ w.cell? (ad.add (i * 2 + 1)) = some (.int .i64 v.all) := by
      intro i hil
      obtain ⟨cs', hc, ht⟩ := hi i (by omega)
      rw [cellsOfLim] at hc
      obtain ⟨v, rfl, h1, h2⟩ := lim_open ht (fun n hn => hw n (by
        simp only [DataW.weights, Tryz.underlying23, List.mem_cons, List.mem_append]
        refine .inr (.inl (mem_weightsAllL hn ?_))
        simp only [List.mem_map, List.mem_range]
        exact ⟨i, hil, rfl⟩))
      obtain ⟨_, _, hat⟩ := World.cells?_some hc
      have g0 := hat 0 (by omega)
      have g1 := hat 1 (by omega)
      rw [Go.Deep.add_add] at g0 g1
      exact ⟨v, h1, g0, g1⟩
    have hmx : len ≤ 140737488351232 := by
      have h1 : ∀ n ∈ (DataW.slice ((List.range len).map D) ((List.range (m - len)).map fun j => D (len + j))).weights Tryz.prog 23, n ≤ 140737488351232 := hw
      simp only [DataW.weights, Tryz.underlying23, List.mem_cons] at h1
      have h2 := h1 _ (.inl rfl)
      rw [bytesOfLim] at h2
      simp only [List.length_map, List.length_range] at h2
      omega
    let f : Nat → LV := fun i => if h : i < len then Classical.choose (hone i h) else ⟨none, 0, 0, [], 0⟩
    have hf : ∀ i, i < len → (f i).Ok w ∧ w.cell? (ad.add (i * 2)) = some (.slice (f i).p (f i).n (f i).cap) ∧ w.cell? (ad.add (i * 2 + 1)) = some (.int .i64 (f i).all) := by
      intro i h
      have e : f i = Classical.choose (hone i h) := dif_pos h
      rw [e]
      exact Classical.choose_spec (hone i h)
    refine ⟨(List.range len).map f, by simp, hmx, fun y hy => ?_, ?_⟩
    · obtain ⟨i, hi', rfl⟩ := List.mem_map.1 hy
      exact (hf i (List.mem_range.1 hi')).1
    by_cases h0 : len = 0
    · exact .inl h0
    · obtain ⟨b, off, spot⟩ := ad
      have c0 := (hf 0 (by omega)).2.1
      have hspot : spot = none := by simpa [Addr.add] using World.cell?_spot c0
      subst hspot
      refine .inr ⟨b, off, rfl, ?_, fun i y hy => ?_⟩
      · have := World.block_lt_of_cell? w _ c0
        rwa [Go.WideShapes.add_plain] at this
      · have hil : i < len := by have := (List.getElem?_eq_some_iff.1 hy).1; simpa using this
        rw [List.getElem?_map, List.getElem?_range hil] at hy
        injection hy with hy
        subst hy
        obtain ⟨_, g0, g1⟩ := hf i hil
        rw [Go.WideShapes.add_plain] at g0 g1
        exact ⟨g0, g1⟩
end
end Go.Proofs.YtiehbbhjpcnbnaaGreat
namespace Go.Proofs.YtiehbbhjpcnbnaaGreat
open Go.RowKit
set_option linter.unusedVariables false

section
variable {G S : Nat → Prop} {gb lb b gL cL gF cF : Nat}
end
/-- a guard, beside all that was there -/
structure HW (wb : World) (S : Nat → Prop) (gb lb b gL cL gF cF : Nat) (g : GM) (wr : World) : Prop where
  gg : ∃ G, GG G S gb lb b gL cL gF cF g wr ∧ ∀ j, j < wb.heap.size → G j ∧ j ≠ gF
  blw : Below wb.heap.size wb wr
section
variable {wb : World} {S : Nat → Prop} {gb lb b gL cL gF cF : Nat} {g : GM} {wr wv : World}
theorem HW.below (h : HW wb S gb lb b gL cL gF cF g wr) (hb : Below wr.heap.size wr wv) : HW wb S gb lb b gL cL gF cF g wv := by
  obtain ⟨⟨G, h1, h2⟩, h3⟩ := h
  exact ⟨⟨G, GS.below h1 hb, h2⟩, h3.trans (hb.mono h3.size)⟩
theorem HW.ok (h : HW wb S gb lb b gL cL gF cF g wr) : g.Ok := by obtain ⟨⟨G, h1, h2⟩, h3⟩ := h; exact h1.ok
theorem HW.n16 (h : HW wb S gb lb b gL cL gF cF g wr) : g.l.nm ≤ 16 := h.ok.good.ok.nm.2
/-- rows that were there, or came since -/
theorem HW.rows {p : Option Addr} {len : Nat} {ps : List Pst} (h : HW wb S gb lb b gL cL gF cF g wr) (hb : Below wr.heap.size wr wv) (hr : PRow wv p len ps) (hbl : len = 0 ∨ ∃ r off, p = some ⟨r, off, none⟩ ∧ (r < wb.heap.size ∨ wr.heap.size ≤ r)) :
    ∃ G, GG G S gb lb b gL cL gF cF g wv ∧ PRowG G wv p len ps ∧ (∀ j, j < wb.heap.size → G j ∧ j ≠ gF) ∧ Below wb.heap.size wb wv := by
  obtain ⟨⟨G, h1, h2⟩, h3⟩ := h
  have hs := h3.size
  refine ⟨fun j => G j ∨ (wr.heap.size ≤ j ∧ j < wv.heap.size), GS.more h1 hb (fun j hj => ⟨fun e => e.resolve_right (by omega), .inl⟩) (fun j hj => ?_), ⟨hr, ?_⟩, fun j hj => ⟨.inl (h2 j hj).1, (h2 j hj).2⟩, h3.trans (hb.mono h3.size)⟩
  · rcases hj with hj | hj
    · exact Nat.lt_of_lt_of_le (h1.st.lt j hj) hb.size
    · exact hj.2
  · by_cases h0 : len = 0
    · exact .inl h0
    obtain ⟨r, off, e, hr2⟩ := hbl.resolve_left h0
    refine .inr ⟨r, off, e, ?_⟩
    rcases hr2 with hr2 | hr2
    · exact .inl (h2 r hr2).1
    · obtain ⟨b', off', e', hlt, _⟩ := hr.2.2.resolve_left h0
      rw [e] at e'
      injection e' with e'
      injection e' with e1
      exact .inr ⟨hr2, by omega⟩
theorem HW.done {G : Nat → Prop} {r : Int × GM} {e : Ending} {w' : World} (hG : ∀ j, j < wb.heap.size → G j ∧ j ≠ gF) (hb : Below wb.heap.size wb wv) (h : DoneG G S gb lb b gL cL gF cF r wv e w') : e = .returned (.int .i64 r.1) ∧ HW wb S gb lb b gL cL gF cF r.2 w' := by
  obtain ⟨h1, h2, h3⟩ := h
  exact ⟨h1, ⟨_, h2, hG⟩, hb.trans (h3.below hb.size fun j hj e => by
    rcases e with e | e
    · exact e (hG j hj).1
    · exact (hG j hj).2 e)⟩
theorem HW.inn (h : HW wb S gb lb b gL cL gF cF g wr) (m c a : Int) (hm : In64 m) (hc : In64 c) (ha : In64 a) : Calls Tryz.prog 19 #[.pointer (some ⟨gb, 0, none⟩), .int .i64 m, .int .i64 c, .int .i64 a] wr fun e w' => e = .returned (.int .i64 (g.inn m c a).1) ∧ HW wb S gb lb b gL cL gF cF (g.inn m c a).2 w' := by
  obtain ⟨⟨G, h1, h2⟩, h3⟩ := h
  exact (gin_any g m c a wr h1 hm hc ha).mono fun e w' hd => HW.done h2 h3 hd
theorem HW.book {p : Option Addr} {len : Nat} {ps : List Pst} (cap : Nat) (h : HW wb S gb lb b gL cL gF cF g wr) (hb : Below wr.heap.size wr wv) (hr : PRow wv p len ps) (hbl : len = 0 ∨ ∃ r off, p = some ⟨r, off, none⟩ ∧ (r < wb.heap.size ∨ wr.heap.size ≤ r)) (hlen : len ≤ 30) :
    Calls Tryz.prog 40 #[.pointer (some ⟨gb, 0, none⟩), .slice p len cap] wv fun e w' => e = .returned (.int .i64 (g.book ps).1) ∧ HW wb S gb lb b gL cL gF cF (g.book ps).2 w' := by
  obtain ⟨G, h1, h2, h3, h4⟩ := h.rows hb hr hbl
  exact (gbook_any g p len cap ps wv h1 h2 hlen).mono fun e w' hd => HW.done h3 h4 hd
theorem HW.fails {p : Option Addr} {len : Nat} {ps : List Pst} (cap : Nat) (m : Int) (h : HW wb S gb lb b gL cL gF cF g wr) (hb : Below wr.heap.size wr wv) (hr : PRow wv p len ps) (hbl : len = 0 ∨ ∃ r off, p = some ⟨r, off, none⟩ ∧ (r < wb.heap.size ∨ wr.heap.size ≤ r)) (hlen : len ≤ 30) :
    Calls Tryz.prog 71 #[.pointer (some ⟨gb, 0, none⟩), .int .i64 m, .slice p len cap] wv fun e w' => e = .returned (.int .i64 (g.fails m ps)) ∧ HW wb S gb lb b gL cL gF cF g w' := by
  obtain ⟨G, h1, h2, h3, h4⟩ := h.rows hb hr hbl
  exact (h1.fails m p len cap ps h2 hlen).mono fun e w' ⟨e1, e2, e3⟩ => ⟨e1, ⟨G, e2, h3⟩, h4.trans (e3.below h4.size fun j hj e => e (h3 j hj).1)⟩
theorem HW.flagged (m : Int) (h : HW wb S gb lb b gL cL gF cF g wr) : Calls Tryz.prog 93 #[.pointer (some ⟨gb, 0, none⟩), .int .i64 m] wr fun e w' => e = .returned (.bool (g.flagged m)) ∧ wr = w' := by
  obtain ⟨⟨G, h1, h2⟩, h3⟩ := h
  exact h1.flagged m
theorem HW.get (m c : Int) (h : HW wb S gb lb b gL cL gF cF g wr) : Calls Tryz.prog 21 #[.pointer (some ⟨lb, 0, none⟩), .int .i64 m, .int .i64 c] wr fun e w' => e = .returned (.int .i64 (g.l.get m c)) ∧ wr = w' := by
  obtain ⟨⟨G, h1, h2⟩, h3⟩ := h
  obtain ⟨P, gB, cB, hP⟩ := h1.st.pl
  exact get_any m c wr hP
theorem HW.made {cs : List Cur} {l : LM} {ls : List LV} {H : Nat → Prop} {w w' : World} (h : MadeG (fun j => j < wb.heap.size) l cs ls lb gb b gL cL gF cF H S w w') (hb : Below wb.heap.size wb w') : HW wb S gb lb b gL cL gF cF (newGM l cs ls) w' := ⟨⟨H, h.gg, fun j hj => h.sub j hj⟩, hb⟩
end
/-- what made makes -/
def MadeP (cs : List Cur) (ls : List LV) (n len : Nat) (w : World) (e : Ending) (w' : World) : Prop :=
  ((newOk (n : Int) (len : Int) = true ∧ chkT cs = 0 ∧ limsOk ls n len = true) → ∃ gb lb b gL cL gF cF S, e = .returned (.pointer (some ⟨gb, 0, none⟩)) ∧ HW w S gb lb b gL cL gF cF (newGM (LM.new n len) cs ls) w') ∧
  (¬ (newOk (n : Int) (len : Int) = true ∧ chkT cs = 0 ∧ limsOk ls n len = true) → e = .returned (.pointer none)) ∧ Below w.heap.size w w'
/-- are there too many? -/
def manyG (ls : List LV) (ops : List GOp) (len : Nat) : Bool := ops.any (fun x => decide (20 < x.len)) || (ls.any (fun v => decide (20 < v.n)) || (decide (30 < ops.length) || (decide (20 < len) || decide (20 < ls.length))))
theorem many_len {ls : List LV} {ops : List GOp} {len : Nat} (h : manyG ls ops len = false) : ops.length ≤ 30 ∧ len ≤ 20 ∧ ls.length ≤ 20 := by
  unfold manyG at h
  simp only [Bool.or_eq_false_iff, decide_eq_false_iff_not] at h
  omega
theorem many_one {ls : List LV} {ops : List GOp} {len : Nat} (h : manyG ls ops len = false) {x : GOp} (hx : x ∈ ops) : x.len ≤ 20 := by
  unfold manyG at h
  simp only [Bool.or_eq_false_iff, List.any_eq_false, decide_eq_true_eq] at h
  have := h.1 x hx
  omega
end Go.Proofs.YtiehbbhjpcnbnaaGreat
