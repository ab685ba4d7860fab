/- A bank that came in, with how many instructions there may be. -/
import Derived.Test.YtiehbbhjpcnbnaaGreatSM
namespace Go.Proofs.YtiehbbhjpcnbnaaGreat
open Go.RowKit
set_option linter.unusedVariables false

structure BV.In2 (x : BV) (w : World) : Prop where
  inn : x.In w
  n3 : x.n3 ≤ 140737488351232
section
variable {H : Type} {enc : TypeId × Value → H} {w : World}
theorem dls_len {fuel : Nat} {a : Option Addr} {len cap : Nat} {x : DataW H × List MemPlace} (h : DataW.trod enc Tryz.prog w 0 (fun _ => true) true fuel 24 [.slice a len cap] = some x) (hw : ∀ n ∈ x.1.weights Tryz.prog 24, n ≤ 140737488351232) : len ≤ 140737488351232 := by
  rcases Go.Deep.open_slice Tryz.underlying24 h with ⟨hcs, _⟩ | ⟨ad, l, c, m, n, D, Pl, hcs, _, hl, hm, hmm, hx, hi⟩
  · simp at hcs
    obtain ⟨rfl, rfl, rfl⟩ := hcs
    omega
  · simp at hcs
    obtain ⟨rfl, rfl, rfl⟩ := hcs
    have hml : len ≤ m := by rw [hmm]; simpa using hl
    subst hx
    have h1 : ∀ n ∈ (DataW.slice ((List.range len).map D) ((List.range (m - len)).map fun j => D (len + j))).weights Tryz.prog 24, n ≤ 140737488351232 := hw
    simp only [DataW.weights, Tryz.underlying24, List.mem_cons] at h1
    have h2 := h1 _ (.inl rfl)
    rw [bytesOfDl] at h2
    simp only [List.length_map, List.length_range] at h2
    omega
set_option maxRecDepth 100000 in
theorem bank_open2 {fuel : Nat} {cs : List Value} {x : DataW H × List MemPlace} (h : DataW.trod enc Tryz.prog w 0 (fun _ => true) true fuel 27 cs = some x) (hw : ∀ n ∈ x.1.weights Tryz.prog 27, n ≤ 140737488351232) :
    ∃ b : BV, cs = b.arr.toList ∧ b.In2 w := by
  obtain ⟨b, hb, hi⟩ := bank_open h hw
  subst hb
  obtain ⟨xs, n, _, hx, hl, hlen, hf⟩ := DataW.trod_struct undBk h
  match xs, hlen with
  | [y0, y1, y2, y3], _ =>
    have h2 := hf 2 ⟨"Deals", 24, 2, false, "", "", 48⟩ rfl
    simp only [BV.arr, cellsOf24, List.drop_zero, List.drop_succ_cons, List.take_succ_cons, List.take_zero] at h2
    refine ⟨b, rfl, hi, dls_len h2 fun n hn => hw n ?_⟩
    subst hx
    simp only [List.map_cons, List.map_nil, DataW.weights, undBk, bkFields, DataW.weightsEach, List.mem_append]
    exact .inr (.inr (.inl hn))
end
end Go.Proofs.YtiehbbhjpcnbnaaGreat
