/- What comes in: a command, a reply. -/
import Derived.Test.YtgcliallkfnhaaaW6
import Derived.Deep.Slices
import Derived.Test.YtgcliallkfnhaaaRows
import Derived.ProofKit
import Derived.OpenShut
namespace Go.Proofs.Ytgcliallkfnhaaa
open Go.RowKit Go.ChangeShapes Go.WideShapes Go.ChangeAt
set_option linter.unusedVariables false

def cmdFields : Array Field := #[⟨"Kind", 3, 0, false, "", "", 0⟩, ⟨"Member", 3, 1, false, "", "", 8⟩, ⟨"Id", 3, 2, false, "", "", 16⟩, ⟨"Other", 3, 3, false, "", "", 24⟩, ⟨"Cur", 3, 4, false, "", "", 32⟩, ⟨"Cur2", 3, 5, false, "", "", 40⟩, ⟨"Amount", 2, 6, false, "", "", 48⟩, ⟨"Amount2", 2, 7, false, "", "", 56⟩]
theorem und23 : Try.prog.underlying 23 = some (.struct cmdFields) := by kernel_rfl
theorem cellsOfCmd : Try.prog.cellsOf 23 = 8 := by kernel_rfl
def repFields : Array Field := #[⟨"E", 25, 0, false, "", "", 0⟩, ⟨"Value", 2, 1, false, "", "", 8⟩, ⟨"Ids", 38, 2, false, "", "", 16⟩]
theorem und40 : Try.prog.underlying 40 = some (.struct repFields) := by kernel_rfl
theorem cellsOfRep : Try.prog.cellsOf 40 = 3 := by kernel_rfl
theorem cellsOfInt3 : Try.prog.cellsOf 3 = 1 := by kernel_rfl
theorem cellsOfInt2 : Try.prog.cellsOf 2 = 1 := by kernel_rfl
theorem cellsOfErrno : Try.prog.cellsOf 25 = 1 := by kernel_rfl
theorem cellsOfRow : Try.prog.cellsOf 38 = 1 := by kernel_rfl

theorem bytesOfInt3 : Try.prog.bytesOf 3 = 8 := by kernel_rfl
section
variable {H : Type} {enc : TypeId × Value → H} {w : World}
set_option maxRecDepth 100000 in
/-- a command, read -/
theorem cmd_open {fuel : Nat} {cs : List Value} {x : DataW H × List MemPlace} (h : DataW.trod enc Try.prog w 0 (fun _ => true) true fuel 23 cs = some x) :
    ∃ c : Cmd, cs = c.arr.toList ∧ c.In := by
  obtain ⟨xs, n, _, hx, hl, hlen, hf⟩ := DataW.trod_struct und23 h
  rw [cellsOfCmd] at hl
  match cs, hl with
  | [v0, v1, v2, v3, v4, v5, v6, v7], _ =>
    match xs, hlen with
    | [y0, y1, y2, y3, y4, y5, y6, y7], _ =>
      have h0 := hf 0 ⟨"Kind", 3, 0, false, "", "", 0⟩ rfl
      have h1 := hf 1 ⟨"Member", 3, 1, false, "", "", 8⟩ rfl
      have h2 := hf 2 ⟨"Id", 3, 2, false, "", "", 16⟩ rfl
      have h3 := hf 3 ⟨"Other", 3, 3, false, "", "", 24⟩ rfl
      have h4 := hf 4 ⟨"Cur", 3, 4, false, "", "", 32⟩ rfl
      have h5 := hf 5 ⟨"Cur2", 3, 5, false, "", "", 40⟩ rfl
      have h6 := hf 6 ⟨"Amount", 2, 6, false, "", "", 48⟩ rfl
      have h7 := hf 7 ⟨"Amount2", 2, 7, false, "", "", 56⟩ rfl
      simp only [cellsOfInt3, cellsOfInt2, List.drop_zero, List.drop_succ_cons, List.take_succ_cons, List.take_zero] at h0 h1 h2 h3 h4 h5 h6 h7
      obtain ⟨a0, e0, _, w0⟩ := DataW.trod_int Try.underlying3 h0
      obtain ⟨a1, e1, _, w1⟩ := DataW.trod_int Try.underlying3 h1
      obtain ⟨a2, e2, _, w2⟩ := DataW.trod_int Try.underlying3 h2
      obtain ⟨a3, e3, _, w3⟩ := DataW.trod_int Try.underlying3 h3
      obtain ⟨a4, e4, _, w4⟩ := DataW.trod_int Try.underlying3 h4
      obtain ⟨a5, e5, _, w5⟩ := DataW.trod_int Try.underlying3 h5
      obtain ⟨a6, e6, _, w6⟩ := DataW.trod_int Try.underlying2 h6
      obtain ⟨a7, e7, _, w7⟩ := DataW.trod_int Try.underlying2 h7
      simp only [List.cons.injEq, and_true] at e0 e1 e2 e3 e4 e5 e6 e7
      subst e0; subst e1; subst e2; subst e3; subst e4; subst e5; subst e6; subst e7
      refine ⟨⟨a0, a1, a2, a3, a4, a5, a6, a7⟩, rfl, bounds_i64 w0, fun i => ?_⟩
      unfold Cmd.num
      split
      · exact bounds_i64 w1
      · exact bounds_i64 w2
      · exact bounds_i64 w3
      · exact bounds_i64 w4
      · exact bounds_i64 w5
      · exact bounds_i64 w6
      · exact bounds_i64 w7
set_option maxRecDepth 100000 in
/-- ints, read -/
theorem zrow_open {fuel : Nat} {a : Option Addr} {len cap : Nat} {x : DataW H × List MemPlace} (h : DataW.trod enc Try.prog w 0 (fun _ => true) true fuel 38 [.slice a len cap] = some x) (hw : ∀ n ∈ x.1.weights Try.prog 38, n ≤ 140737488351232) :
    ∃ l : List Int, l.length = len ∧ ZRow w a len l ∧ len ≤ 4611686018427387904 := by
  rcases Go.Deep.open_slice Try.underlying38 h with ⟨hcs, _⟩ | ⟨ad, l, c, m, n, D, Pl, hcs, _, hl, hm, hmm, hx, hi⟩
  · simp at hcs
    obtain ⟨rfl, rfl, rfl⟩ := hcs
    exact ⟨[], rfl, ⟨rfl, .inl rfl⟩, by omega⟩
  · simp at hcs
    obtain ⟨rfl, rfl, rfl⟩ := hcs
    have hml : len ≤ m := by rw [hmm]; simpa using hl
    have hone : ∀ i, i < len → ∃ z : Int, w.cell? (ad.add i) = some (.int .i64 z) := by
      intro i hil
      obtain ⟨cs', hc, ht⟩ := hi i (by omega)
      rw [cellsOfInt3] at hc
      obtain ⟨z, rfl, _, _⟩ := DataW.trod_int Try.underlying3 ht
      obtain ⟨_, _, hat⟩ := World.cells?_some hc
      have g := hat 0 (by omega)
      rw [Go.Deep.add_add] at g
      refine ⟨z, ?_⟩
      rw [show i = i * 1 + 0 by omega, g]
      rfl
    let f : Nat → Int := fun i => if h : i < len then Classical.choose (hone i h) else 0
    have hf : ∀ i, i < len → w.cell? (ad.add i) = some (.int .i64 (f i)) := by
      intro i h
      have e : f i = Classical.choose (hone i h) := dif_pos h
      rw [e]
      exact Classical.choose_spec (hone i h)
    subst hx
    have hmx : len ≤ 4611686018427387904 := by
      have h1 : ∀ n ∈ (DataW.slice ((List.range len).map D) ((List.range (m - len)).map fun j => D (len + j))).weights Try.prog 38, n ≤ 140737488351232 := hw
      simp only [DataW.weights, Try.underlying38, List.mem_cons] at h1
      have h2 := h1 _ (.inl rfl)
      rw [bytesOfInt3] at h2
      simp only [List.length_map, List.length_range] at h2
      omega
    refine ⟨(List.range len).map f, by simp, ⟨by simp, ?_⟩, hmx⟩
    by_cases h0 : len = 0
    · exact .inl h0
    · obtain ⟨b, off, spot⟩ := ad
      have c0 := hf 0 (by omega)
      have hspot : spot = none := by simpa [Addr.add] using World.cell?_spot c0
      subst hspot
      refine .inr ⟨b, off, rfl, ?_, fun i h => ?_⟩
      · have := World.block_lt_of_cell? w _ c0
        rwa [Go.WideShapes.add_plain] at this
      · have g := hf i h
        rw [Go.WideShapes.add_plain] at g
        rw [g, List.getD_eq_getElem?_getD, List.getElem?_map, List.getElem?_range h]
        rfl
set_option maxRecDepth 100000 in
/-- a reply, read -/
theorem rep_open {fuel : Nat} {cs : List Value} {x : DataW H × List MemPlace} (h : DataW.trod enc Try.prog w 0 (fun _ => true) true fuel 40 cs = some x) (hw : ∀ n ∈ x.1.weights Try.prog 40, n ≤ 140737488351232) :
    ∃ (r : Rep) (p : Option Addr) (cap : Nat), cs = (repArr r p cap).toList ∧ (-9223372036854775808 ≤ r.Value ∧ r.Value ≤ 9223372036854775807) ∧ ZRow w p r.Ids.length r.Ids ∧ r.Ids.length ≤ 4611686018427387904 := by
  obtain ⟨xs, n, _, hx, hl, hlen, hf⟩ := DataW.trod_struct und40 h
  rw [cellsOfRep] at hl
  match cs, hl with
  | [v0, v1, v2], _ =>
    match xs, hlen with
    | [y0, y1, y2], _ =>
      have h0 := hf 0 ⟨"E", 25, 0, false, "", "", 0⟩ rfl
      have h1 := hf 1 ⟨"Value", 2, 1, false, "", "", 8⟩ rfl
      have h2 := hf 2 ⟨"Ids", 38, 2, false, "", "", 16⟩ rfl
      simp only [cellsOfErrno, cellsOfInt2, cellsOfRow, List.drop_zero, List.drop_succ_cons, List.take_succ_cons, List.take_zero] at h0 h1 h2
      obtain ⟨a0, e0, _, w0⟩ := DataW.trod_int Try.underlying25 h0
      obtain ⟨a1, e1, _, w1⟩ := DataW.trod_int Try.underlying2 h1
      simp only [List.cons.injEq, and_true] at e0 e1
      subst e0; subst e1
      obtain ⟨p, len, cap, rfl⟩ : ∃ p len cap, v2 = Value.slice p len cap := by
        rcases Go.Deep.open_slice Try.underlying38 h2 with ⟨hcs, _⟩ | ⟨ad, l, c, m, n, D, Pl, hcs, _⟩
        · exact ⟨none, 0, 0, by simpa using hcs⟩
        · exact ⟨some ad, l, c, by simpa using hcs⟩
      obtain ⟨l, rfl, hz, hn⟩ := zrow_open h2 (fun n hn => hw n (by
        subst hx
        simp only [List.map_cons, List.map_nil, DataW.weights, und40, repFields, DataW.weightsEach, List.mem_append]
        exact .inr (.inr (.inl hn))))
      exact ⟨⟨a0, a1, l⟩, p, cap, rfl, bounds_i64 w1, hz, hn⟩
end
end Go.Proofs.Ytgcliallkfnhaaa
