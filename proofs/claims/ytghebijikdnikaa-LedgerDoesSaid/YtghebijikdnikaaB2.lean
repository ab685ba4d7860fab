/- awake answers true. -/
import Derived.Test.YtghebijikdnikaaB1
namespace Go.Proofs.Ytghebijikdnikaa
open Go.RowKit
set_option linter.unusedVariables false

theorem chain_trans {a b c : World} (h : Below a.heap.size a b) (k : Below b.heap.size b c) : Below a.heap.size a c := h.trans (k.mono h.size)

theorem amt_getD (zs : List Int) (h : ∀ z ∈ zs, Amt z) (i : Nat) : Amt (zs.getD i 0) := by
  by_cases hi : i < zs.length
  · rw [List.getD_eq_getElem?_getD, List.getElem?_eq_getElem hi]; exact h _ (List.getElem_mem hi)
  · rw [List.getD_eq_getElem?_getD, List.getElem?_eq_none (by omega)]; exact ⟨by decide, by decide⟩
theorem seq3 (w : World) (x y z : Int) (hx : Amt x) (hy : Amt y) (hz : Amt z) : Seq64 (w.alloc (.cells #[.int .i64 x, .int .i64 y, .int .i64 z] 2)) (some ⟨w.heap.size, 0, none⟩) 3 [x, y, z] := by
  refine ⟨rfl, amt_getD _ (by simp; exact ⟨hx, hy, hz⟩), by decide, .inr ⟨w.heap.size, 0, rfl, by simp, fun i hi => ?_⟩⟩
  rcases (by omega : i = 0 ∨ i = 1 ∨ i = 2) with rfl | rfl | rfl <;> go_simp <;> rfl
theorem seq2 (w : World) (x y : Int) (hx : Amt x) (hy : Amt y) : Seq64 (w.alloc (.cells #[.int .i64 x, .int .i64 y] 2)) (some ⟨w.heap.size, 0, none⟩) 2 [x, y] := by
  refine ⟨rfl, amt_getD _ (by simp; exact ⟨hx, hy⟩), by decide, .inr ⟨w.heap.size, 0, rfl, by simp, fun i hi => ?_⟩⟩
  rcases (by omega : i = 0 ∨ i = 1) with rfl | rfl <;> go_simp <;> rfl

end Go.Proofs.Ytghebijikdnikaa
