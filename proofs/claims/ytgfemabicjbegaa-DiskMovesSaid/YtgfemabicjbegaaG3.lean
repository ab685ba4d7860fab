/- Operations that came in: what their reading tells of them. -/
import Derived.Test.YtgfemabicjbegaaG1
import Derived.SizedLaws
import Derived.Deep.Slices
import Derived.Deep.Fields
import Derived.ChangeSame
import Derived.OpenShut
namespace Go.Proofs.Ytgfemabicjbegaa
open Go.RowKit Go.ChangeShapes Go.WideShapes
set_option linter.unusedVariables false

/-- a row of operations, in a world -/
def OpRow (w : World) (p : Option Addr) (len : Nat) (ops : Nat → DOp) : Prop :=
  (∀ i, (ops i).Ok ∧ (ops i).Bs.size ≤ 140737488351232) ∧ len ≤ 140737488351232 ∧
    (len = 0 ∨ ∃ b off, p = some ⟨b, off, none⟩ ∧ b < w.heap.size ∧ ∀ i, i < len → ∀ j, j < 9 → w.cell? ⟨b, off + i * 9 + j, none⟩ = (ops i).arr[j]?)
theorem OpRow.kept {w w' : World} {p : Option Addr} {len : Nat} {ops : Nat → DOp} (h : OpRow w p len ops) (hb : Below w.heap.size w w') : OpRow w' p len ops := by
  obtain ⟨h1, h2, h3⟩ := h
  refine ⟨h1, h2, ?_⟩
  rcases h3 with h3 | ⟨b, off, e, hlt, hc⟩
  · exact .inl h3
  · exact .inr ⟨b, off, e, Nat.lt_of_lt_of_le hlt hb.size, fun i hi j hj => (hb.cell (p := ⟨b, off + i * 9 + j, none⟩) hlt).trans (hc i hi j hj)⟩

/-- the fields of an operation -/
def opFields : Array Field := #[⟨"Do", 3, 0, false, "", "", 0⟩, ⟨"File", 3, 1, false, "", "", 8⟩, ⟨"N", 3, 2, false, "", "", 16⟩, ⟨"To", 3, 3, false, "", "", 24⟩, ⟨"B", 9, 4, false, "", "", 32⟩, ⟨"Kept", 31, 5, false, "", "", 48⟩]
theorem und33 : Try.prog.underlying 33 = some (.struct opFields) := by kernel_rfl
theorem cellsOf33 : Try.prog.cellsOf 33 = 9 := by kernel_rfl
theorem cellsOf31 : Try.prog.cellsOf 31 = 4 := by kernel_rfl
theorem cellsOf9 : Try.prog.cellsOf 9 = 1 := by kernel_rfl
theorem cellsOf3 : Try.prog.cellsOf 3 = 1 := by kernel_rfl
theorem bytesOf33 : Try.prog.bytesOf 33 = 80 := by kernel_rfl

theorem mem_weightsAll {H : Type} {P : Program} {e : TypeId} {d : DataW H} {n : Nat} (hn : n ∈ d.weights P e) : ∀ {l : List (DataW H)}, d ∈ l → n ∈ DataW.weightsAll P e l
  | x :: r, h => by
    simp only [DataW.weightsAll, List.mem_append]
    rcases List.mem_cons.1 h with rfl | h
    · exact .inl hn
    · exact .inr (mem_weightsAll hn h)

section
variable {H : Type} {enc : TypeId × Value → H} {w : World}

/-- four ints, read -/
theorem four_open {fuel : Nat} {cs : List Value} {x : DataW H × List MemPlace} (h : DataW.trod enc Try.prog w 0 (fun _ => true) true fuel 31 cs = some x) :
    ∃ K : Nat → Int, cs = [.int .i64 (K 0), .int .i64 (K 1), .int .i64 (K 2), .int .i64 (K 3)] ∧ ∀ i, K i ≤ 9223372036854775807 := by
  obtain ⟨xs, n, _, hx, hl, hlen, hf⟩ := DataW.trod_array Try.underlying31 h
  rw [cellsOf31] at hl
  match cs, hl with
  | [v0, v1, v2, v3], _ =>
    match xs, hlen with
    | [y0, y1, y2, y3], _ =>
      have h0 := hf 0 (by omega)
      have h1 := hf 1 (by omega)
      have h2 := hf 2 (by omega)
      have h3 := hf 3 (by omega)
      simp only [cellsOf3, Nat.mul_one, List.drop_zero, List.drop_succ_cons, List.take_succ_cons, List.take_zero] at h0 h1 h2 h3
      obtain ⟨a, e0, _, w0⟩ := DataW.trod_int Try.underlying3 h0
      obtain ⟨b, e1, _, w1⟩ := DataW.trod_int Try.underlying3 h1
      obtain ⟨c, e2, _, w2⟩ := DataW.trod_int Try.underlying3 h2
      obtain ⟨d, e3, _, w3⟩ := DataW.trod_int Try.underlying3 h3
      simp only [List.cons.injEq, and_true] at e0 e1 e2 e3
      subst e0; subst e1; subst e2; subst e3
      refine ⟨fun i => if i = 0 then a else if i = 1 then b else if i = 2 then c else d, rfl, fun i => ?_⟩
      have := (bounds_i64 w0).2; have := (bounds_i64 w1).2; have := (bounds_i64 w2).2; have := (bounds_i64 w3).2
      show (if i = 0 then a else if i = 1 then b else if i = 2 then c else d) ≤ _
      split
      · assumption
      split
      · assumption
      split <;> assumption

/-- one operation, read -/
theorem op_open {fuel : Nat} {cs : List Value} {x : DataW H × List MemPlace} (h : DataW.trod enc Try.prog w 0 (fun _ => true) true fuel 33 cs = some x) :
    ∃ c : DOp, cs = c.arr.toList ∧ c.Ok ∧ c.Bs.size ∈ x.1.weights Try.prog 33 := by
  obtain ⟨xs, n, _, hx, hl, hlen, hf⟩ := DataW.trod_struct und33 h
  rw [cellsOf33] at hl
  match cs, hl with
  | [v0, v1, v2, v3, v4, v5, v6, v7, v8], _ =>
    match xs, hlen with
    | [y0, y1, y2, y3, y4, y5], _ =>
      have h0 := hf 0 ⟨"Do", 3, 0, false, "", "", 0⟩ rfl
      have h1 := hf 1 ⟨"File", 3, 1, false, "", "", 8⟩ rfl
      have h2 := hf 2 ⟨"N", 3, 2, false, "", "", 16⟩ rfl
      have h3 := hf 3 ⟨"To", 3, 3, false, "", "", 24⟩ rfl
      have h4 := hf 4 ⟨"B", 9, 4, false, "", "", 32⟩ rfl
      have h5 := hf 5 ⟨"Kept", 31, 5, false, "", "", 48⟩ rfl
      simp only [cellsOf9, cellsOf3, cellsOf31, List.drop_zero, List.drop_succ_cons, List.take_succ_cons, List.take_zero] at h0 h1 h2 h3 h4 h5
      obtain ⟨a, e0, _, w0⟩ := DataW.trod_int Try.underlying3 h0
      obtain ⟨b, e1, _, w1⟩ := DataW.trod_int Try.underlying3 h1
      obtain ⟨c, e2, _, w2⟩ := DataW.trod_int Try.underlying3 h2
      obtain ⟨d, e3, _, w3⟩ := DataW.trod_int Try.underlying3 h3
      obtain ⟨s, e4, x4, _⟩ := DataW.trod_string Try.underlying9 h4
      obtain ⟨K, e5, hK⟩ := four_open h5
      simp only [List.cons.injEq, and_true] at e0 e1 e2 e3 e4 e5
      obtain ⟨e5, e6, e7, e8⟩ := e5
      subst e0; subst e1; subst e2; subst e3; subst e4; subst e5; subst e6; subst e7; subst e8
      refine ⟨⟨a, b, c, d, s, K⟩, rfl, ⟨(bounds_i64 w2).2, hK⟩, ?_⟩
      subst hx
      rw [x4]
      simp only [List.map_cons, List.map_nil, DataW.weights, und33, opFields, DataW.weightsEach, List.mem_append]
      refine .inr (.inr (.inr (.inr (.inl ?_))))
      simp only [List.mem_singleton]
      exact (Array.length_toList).symm

/-- operations that came in -/
theorem ops_open {fuel : Nat} {a : Option Addr} {len cap : Nat} {x : DataW H × List MemPlace} (h : DataW.trod enc Try.prog w 0 (fun _ => true) true fuel 22 (Value.cells (.slice a len cap)).toList = some x)
    (hw : ∀ n ∈ x.1.weights Try.prog 22, n ≤ 140737488351232) : ∃ ops, OpRow w a len ops := by
  let z : DOp := ⟨0, 0, 0, 0, ⟨#[]⟩, fun _ => 0⟩
  have hz0 : z.Ok ∧ z.Bs.size ≤ 140737488351232 := ⟨⟨by show (0 : Int) ≤ _; omega, fun _ => by show (0 : Int) ≤ _; omega⟩, by show 0 ≤ _; omega⟩
  rcases Go.Deep.open_slice Try.underlying22 h with ⟨hcs, _⟩ | ⟨ad, l, c, m, n, D, Pl, hcs, _, hl, hm, hmm, hx, hi⟩
  · simp [Value.cells] at hcs
    obtain ⟨rfl, rfl, rfl⟩ := hcs
    exact ⟨fun _ => z, fun _ => hz0, by decide, .inl rfl⟩
  · simp [Value.cells] at hcs
    obtain ⟨rfl, rfl, rfl⟩ := hcs
    have hml : len ≤ m := by rw [hmm]; simpa using hl
    subst hx
    have hone : ∀ i, i < len → ∃ c : DOp, (c.Ok ∧ c.Bs.size ≤ 140737488351232) ∧ ∀ j, j < 9 → w.cell? (ad.add (i * 9 + j)) = c.arr[j]? := by
      intro i hil
      obtain ⟨cs', hc, ht⟩ := hi i (by omega)
      rw [cellsOf33] at hc
      obtain ⟨c, rfl, h1, h2⟩ := op_open ht
      obtain ⟨_, _, hat⟩ := World.cells?_some hc
      refine ⟨c, ⟨h1, hw _ ?_⟩, fun j hj => ?_⟩
      · simp only [DataW.weights, Try.underlying22, List.mem_cons, List.mem_append]
        refine .inr (.inl (mem_weightsAll h2 ?_))
        simp only [List.mem_map, List.mem_range]
        exact ⟨i, hil, rfl⟩
      · have g := hat j hj
        rw [Go.Deep.add_add] at g
        rw [g]
        simp
    have hlen : len ≤ 140737488351232 := by
      have h1 : ∀ n ∈ (DataW.slice ((List.range len).map D) ((List.range (m - len)).map fun j => D (len + j))).weights Try.prog 22, n ≤ 140737488351232 := hw
      simp only [DataW.weights, Try.underlying22, List.mem_cons] at h1
      have h2 := h1 _ (.inl rfl)
      rw [bytesOf33] at h2
      simp only [List.length_map, List.length_range] at h2
      omega
    let f : Nat → DOp := fun i => if h : i < len then Classical.choose (hone i h) else z
    have hf : ∀ i, i < len → ((f i).Ok ∧ (f i).Bs.size ≤ 140737488351232) ∧ ∀ j, j < 9 → w.cell? (ad.add (i * 9 + j)) = (f i).arr[j]? := by
      intro i h
      have e : f i = Classical.choose (hone i h) := dif_pos h
      rw [e]
      exact Classical.choose_spec (hone i h)
    refine ⟨f, fun i => ?_, hlen, ?_⟩
    · by_cases h : i < len
      · exact (hf i h).1
      · have e : f i = z := dif_neg h
        rw [e]; exact hz0
    · by_cases h0 : len = 0
      · exact .inl h0
      · obtain ⟨b, off, spot⟩ := ad
        have c0 : w.cell? _ = some (.int .i64 (f 0).Do) := (hf 0 (by omega)).2 0 (by omega)
        have hspot : spot = none := by simpa [Addr.add] using World.cell?_spot c0
        subst hspot
        refine .inr ⟨b, off, rfl, ?_, fun i h j hj => ?_⟩
        · have := World.block_lt_of_cell? w _ c0
          rwa [Go.WideShapes.add_plain] at this
        · have g := (hf i h).2 j hj
          rw [Go.WideShapes.add_plain] at g
          rw [← g]
          congr 2
          omega
end
end Go.Proofs.Ytgfemabicjbegaa
