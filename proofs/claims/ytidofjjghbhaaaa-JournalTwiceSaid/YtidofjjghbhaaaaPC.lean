/- What comes in: two numbers, two rows of four numbers, three texts. -/
import Derived.Test.YtidofjjghbhaaaaJL0
namespace Go.Proofs.Ytidofjjghbhaaaa
open Go.RowKit
set_option linter.unusedVariables false

theorem cellsOfStr9 : Try.prog.cellsOf 9 = 1 := by kernel_rfl
theorem cellsOfTwo : Try.prog.cellsOf 61 = 2 := by kernel_rfl
theorem cellsOfEight : Try.prog.cellsOf 62 = 8 := by kernel_rfl
theorem cellsOfTexts : Try.prog.cellsOf 22 = 3 := by kernel_rfl

section
variable {H : Type} {enc : TypeId × Value → H} {w : World}

set_option maxRecDepth 100000 in
/-- two ints, read -/
theorem two_open {fuel : Nat} {cs : List Value} {x : DataW H × List MemPlace} (h : DataW.trod enc Try.prog w 0 (fun _ => true) true fuel 61 cs = some x) :
    ∃ a b : Int, cs = [.int .i64 a, .int .i64 b] ∧ a ≤ 9223372036854775807 ∧ b ≤ 9223372036854775807 := by
  obtain ⟨xs, n, _, hx, hl, hlen, hf⟩ := DataW.trod_array Try.underlying61 h
  rw [cellsOfTwo] at hl
  match cs, hl with
  | [v0, v1], _ =>
    match xs, hlen with
    | [y0, y1], _ =>
      have h0 := hf 0 (by omega)
      have h1 := hf 1 (by omega)
      simp only [cellsOfInt, Nat.mul_one, List.drop_zero, List.drop_succ_cons, List.take_succ_cons, List.take_zero] at h0 h1
      obtain ⟨a, e0, _, w0⟩ := DataW.trod_int Try.underlying3 h0
      obtain ⟨b, e1, _, w1⟩ := DataW.trod_int Try.underlying3 h1
      simp only [List.cons.injEq, and_true] at e0 e1
      subst e0; subst e1
      exact ⟨a, b, rfl, (bounds_i64 w0).2, (bounds_i64 w1).2⟩
set_option maxRecDepth 100000 in
/-- two rows of four ints, read -/
theorem eight_open {fuel : Nat} {cs : List Value} {x : DataW H × List MemPlace} (h : DataW.trod enc Try.prog w 0 (fun _ => true) true fuel 62 cs = some x) :
    ∃ K L : Nat → Int, cs = [.int .i64 (K 0), .int .i64 (K 1), .int .i64 (K 2), .int .i64 (K 3), .int .i64 (L 0), .int .i64 (L 1), .int .i64 (L 2), .int .i64 (L 3)] ∧ (∀ i, K i ≤ 9223372036854775807) ∧ ∀ i, L i ≤ 9223372036854775807 := by
  obtain ⟨xs, n, _, hx, hl, hlen, hf⟩ := DataW.trod_array Try.underlying62 h
  rw [cellsOfEight] at hl
  match cs, hl with
  | [v0, v1, v2, v3, v4, v5, v6, v7], _ =>
    match xs, hlen with
    | [y0, y1], _ =>
      have h0 := hf 0 (by omega)
      have h1 := hf 1 (by omega)
      simp only [cellsOfFour, Nat.zero_mul, Nat.one_mul, List.drop_zero, List.drop_succ_cons, List.take_succ_cons, List.take_zero] at h0 h1
      obtain ⟨K, e0, hK⟩ := four_openJ h0
      obtain ⟨L, e1, hL⟩ := four_openJ h1
      simp only [List.cons.injEq, and_true] at e0 e1
      obtain ⟨a0, a1, a2, a3⟩ := e0
      obtain ⟨b0, b1, b2, b3⟩ := e1
      subst a0; subst a1; subst a2; subst a3; subst b0; subst b1; subst b2; subst b3
      exact ⟨K, L, rfl, hK, hL⟩
set_option maxRecDepth 100000 in
/-- three texts, read; each within reach -/
theorem texts_open {fuel : Nat} {cs : List Value} {x : DataW H × List MemPlace} (h : DataW.trod enc Try.prog w 0 (fun _ => true) true fuel 22 cs = some x) (hr : ∀ n ∈ x.1.weights Try.prog 22, n ≤ reachBytes) :
    ∃ f : Nat → ByteArray, cs = [.string (f 0), .string (f 1), .string (f 2)] ∧ ∀ k, (f k).size ≤ 140737488351232 := by
  obtain ⟨xs, n, _, hx, hl, hlen, hf⟩ := DataW.trod_array Try.underlying22 h
  rw [cellsOfTexts] at hl
  match cs, hl with
  | [v0, v1, v2], _ =>
    match xs, hlen with
    | [y0, y1, y2], _ =>
      have h0 := hf 0 (by omega)
      have h1 := hf 1 (by omega)
      have h2 := hf 2 (by omega)
      simp only [cellsOfStr9, Nat.mul_one, List.drop_zero, List.drop_succ_cons, List.take_succ_cons, List.take_zero] at h0 h1 h2
      obtain ⟨a, e0, x0, _⟩ := DataW.trod_string Try.underlying9 h0
      obtain ⟨b, e1, x1, _⟩ := DataW.trod_string Try.underlying9 h1
      obtain ⟨c, e2, x2, _⟩ := DataW.trod_string Try.underlying9 h2
      simp only [List.cons.injEq, and_true] at e0 e1 e2
      subst e0; subst e1; subst e2
      have hin : ∀ (s : ByteArray) (y : DataW H × List MemPlace), y ∈ [y0, y1, y2] → y = (.lit (.string s.data.toList), []) → s.size ≤ 140737488351232 := by
        intro s y hy he
        have hm : s.data.toList.length ∈ x.1.weights Try.prog 22 := by
          rw [hx]
          simp only [DataW.weights, Try.underlying22]
          exact mem_weightsAllJ (d := y.1) (by rw [he]; simp [DataW.weights]) (List.mem_map_of_mem hy)
        have := hr _ hm
        rw [Array.length_toList] at this
        exact this
      have s0 := hin a y0 (by simp) x0
      have s1 := hin b y1 (by simp) x1
      have s2 := hin c y2 (by simp) x2
      refine ⟨fun i => if i = 0 then a else if i = 1 then b else c, rfl, fun k => ?_⟩
      show (if k = 0 then a else if k = 1 then b else c).size ≤ _
      split
      · exact s0
      · split
        · exact s1
        · exact s2
end
end Go.Proofs.Ytidofjjghbhaaaa
