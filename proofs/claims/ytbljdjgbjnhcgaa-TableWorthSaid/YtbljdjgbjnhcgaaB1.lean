/- The contracts of money's Sum and Chain, over a slice of amounts. -/
import Derived.Test.YtbljdjgbjnhcgaaA5
namespace Go.Proofs.Ytbljdjgbjnhcgaa
open Go.RowKit
set_option linter.unusedVariables false

/-- an amount -/
def Amt (z : Int) : Prop := -9223372036854775808 ≤ z ∧ z ≤ 9223372036854775807
/-- a slice's elements, in a world -/
def Seq64 (w : World) (a : Option Addr) (len : Nat) (zs : List Int) : Prop :=
  zs.length = len ∧ (∀ i, Amt (zs.getD i 0)) ∧ len ≤ 4611686018427387904 ∧
    (len = 0 ∨ ∃ b off, a = some ⟨b, off, none⟩ ∧ b < w.heap.size ∧ ∀ i, i < len → w.cell? ⟨b, off + i, none⟩ = some (.int .i64 (zs.getD i 0)))
theorem Seq64.kept {w w' : World} {a : Option Addr} {len : Nat} {zs : List Int} (h : Seq64 w a len zs) (hb : Below w.heap.size w w') : Seq64 w' a len zs := by
  obtain ⟨h1, h2, h3, h4⟩ := h
  refine ⟨h1, h2, h3, ?_⟩
  rcases h4 with h4 | ⟨b, off, e, hlt, hc⟩
  · exact .inl h4
  · exact .inr ⟨b, off, e, Nat.lt_of_lt_of_le hlt hb.size, fun i hi => (hb.cell (p := ⟨b, off + i, none⟩) hlt).trans (hc i hi)⟩

/-- a and each, one after the other -/
def chainL (a : Int) : List Int → Int × Int
  | [] => (a, 0)
  | b :: r => if -9223372036854775808 ≤ a + b ∧ a + b ≤ 9223372036854775807 then chainL (a + b) r else (0, 3)
def sumL : List Int → Int
  | [] => 0
  | b :: r => b + sumL r
theorem sumL_append (l r : List Int) : sumL (l ++ r) = sumL l + sumL r := by
  induction l with
  | nil => simp [sumL]
  | cons a l ih => simp only [List.cons_append, sumL, ih]; omega
theorem take_one (zs : List Int) (k : Nat) (h : k < zs.length) : zs.take (k + 1) = zs.take k ++ [zs.getD k 0] := by
  rw [List.take_succ_eq_append_getElem h]; simp [List.getD, h]
theorem drop_one (zs : List Int) (k : Nat) (h : k < zs.length) : zs.drop k = zs.getD k 0 :: zs.drop (k + 1) := by
  rw [List.drop_eq_getElem_cons h]; simp [List.getD, h]
theorem sum_take (zs : List Int) (k : Nat) (h : k < zs.length) : sumL (zs.take (k + 1)) = sumL (zs.take k) + zs.getD k 0 := by
  rw [take_one zs k h, sumL_append]; simp [sumL]
theorem sum_bd (zs : List Int) (hz : ∀ i, Amt (zs.getD i 0)) : ∀ k, k ≤ zs.length → -9223372036854775808 * (k : Int) ≤ sumL (zs.take k) ∧ sumL (zs.take k) ≤ 9223372036854775808 * (k : Int)
  | 0, _ => by simp [sumL]
  | k + 1, h => by
    obtain ⟨h1, h2⟩ := sum_bd zs hz k (by omega)
    obtain ⟨h3, h4⟩ := hz k
    rw [sum_take zs k (by omega)]
    omega

end Go.Proofs.Ytbljdjgbjnhcgaa
