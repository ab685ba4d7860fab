/- A slice of texts that came in: what its reading tells of it. -/
import Derived.Test.YtipcnjmlkddaaaaK5
import Derived.SizedLaws
import Derived.SliceStrings
import Derived.ChangeSame
import Derived.OpenShut
namespace Go.Proofs.Ytipcnjmlkddaaaa
open Go.RowKit Go.ChangeShapes Go.WideShapes
set_option linter.unusedVariables false

theorem cellsOf9 : Try.prog.cellsOf 9 = 1 := by kernel_rfl
theorem bytesOf9 : Try.prog.bytesOf 9 = 16 := by kernel_rfl
theorem mem_weightsAll {H : Type} {P : Program} {e : TypeId} {d : DataW H} {n : Nat} (hn : n ∈ d.weights P e) : ∀ {l : List (DataW H)}, d ∈ l → n ∈ DataW.weightsAll P e l
  | x :: r, h => by
    simp only [DataW.weightsAll, List.mem_append]
    rcases List.mem_cons.1 h with rfl | h
    · exact .inl hn
    · exact .inr (mem_weightsAll hn h)

section
variable {H : Type} {enc : TypeId × Value → H} {w : World}

/-- a slice of texts that came in -/
theorem srow_open {fuel : Nat} {a : Option Addr} {len cap : Nat} {x : DataW H × List MemPlace} (h : DataW.trod enc Try.prog w 0 (fun _ => true) true fuel 26 (Value.cells (.slice a len cap)).toList = some x)
    (hw : ∀ n ∈ x.1.weights Try.prog 26, n ≤ 140737488351232) : ∃ ls, SRow w a len ls ∧ Short ls ∧ len ≤ 140737488351232 ∧ len ≤ cap := by
  rcases open_strings Try.underlying26 Try.underlying9 cellsOf9 h with ⟨hcs, hx⟩ | ⟨ad, l, c, ss, hcs, _, hl, hm, hlen, hx, hcell, _⟩
  · simp [Value.cells] at hcs
    obtain ⟨rfl, rfl, rfl⟩ := hcs
    exact ⟨[], ⟨rfl, .inl rfl⟩, fun k => by simp, by omega, by omega⟩
  · simp [Value.cells] at hcs
    obtain ⟨rfl, rfl, rfl⟩ := hcs
    simp only [if_true] at hlen
    subst hx
    simp only [DataW.weights, Try.underlying26] at hw
    have hlen2 : (ss.take len).length = len := by rw [List.length_take]; omega
    have hn : len ≤ 140737488351232 := by
      have h1 := hw _ (List.mem_cons_self ..)
      simp only [strs, List.length_map] at h1
      rw [bytesOf9, hlen2] at h1
      omega
    have hgetD : ∀ i, i < len → ((ss.take len).map bl).getD i [] = bl (ss.getD i ByteArray.empty) := by
      intro i hi
      rw [List.getD_eq_getElem?_getD, List.getElem?_map, List.getElem?_take, if_pos hi, List.getD_eq_getElem?_getD, List.getElem?_eq_getElem (by omega)]
      rfl
    refine ⟨(ss.take len).map bl, ⟨by rw [List.length_map, hlen2], ?_⟩, ?_, hn, hl⟩
    · by_cases h0 : len = 0
      · exact .inl h0
      · obtain ⟨b, off, spot⟩ := ad
        have c0 := hcell 0 (by omega)
        have hspot : spot = none := by simpa [Addr.add] using World.cell?_spot c0
        subst hspot
        refine .inr ⟨b, off, rfl, ?_, fun i h => ?_⟩
        · have := World.block_lt_of_cell? w _ c0
          rwa [Go.WideShapes.add_plain] at this
        · have g0 := hcell i (by omega)
          rw [Go.WideShapes.add_plain] at g0
          rw [g0, hgetD i h, mk_bl]
    · intro k
      by_cases hk : k < len
      · rw [hgetD k hk, bl_length]
        have hmem : (DataW.lit (.string (bl (ss.getD k ByteArray.empty))) : DataW H) ∈ strs (ss.take len) := by
          unfold strs
          refine List.mem_map.2 ⟨ss.getD k ByteArray.empty, ?_, rfl⟩
          rw [List.getD_eq_getElem?_getD, List.getElem?_eq_getElem (by omega)]
          simp only [Option.getD_some]
          exact List.mem_take_iff_getElem.2 ⟨k, by omega, rfl⟩
        have h1 := hw (bl (ss.getD k ByteArray.empty)).length (List.mem_cons_of_mem _ (List.mem_append_left _ (mem_weightsAll (by simp [DataW.weights]) hmem)))
        rw [bl_length] at h1
        omega
      · rw [List.getD_eq_getElem?_getD, List.getElem?_eq_none (by simp; omega)]
        simp
end
end Go.Proofs.Ytipcnjmlkddaaaa
