/- awake answers true. -/
import Derived.Test.YtjlfemiboobpiaaB1
namespace Go.Proofs.Ytjlfemiboobpiaa
open Go.RowKit
set_option linter.unusedVariables false

theorem chain_trans {a b c : World} (h : Below a.heap.size a b) (k : Below b.heap.size b c) : Below a.heap.size a c := h.trans (k.mono h.size)

theorem amt_getD (zs : List Int) (h : ∀ z ∈ zs, Amt z) (i : Nat) : Amt (zs.getD i 0) := by
  by_cases hi : i < zs.length
  · rw [List.getD_eq_getElem?_getD, List.getElem?_eq_getElem hi]; exact h _ (List.getElem_mem hi)
  · rw [List.getD_eq_getElem?_getD, List.getElem?_eq_none (by omega)]; exact ⟨by decide, by decide⟩
theorem seq3 (w : World) (x y z : Int) (hx : Amt x) (hy : Amt y) (hz : Amt z) : Seq64 (w.alloc (.cells #[.int .i64 x, .int .i64 y, .int .i64 z] 2)) (some ⟨w.heap.size, 0, none⟩) 3 [x, y, z] := by
  refine ⟨rfl, amt_getD _ (by simp; exact ⟨hx, hy, hz⟩), by decide, .inr ⟨w.heap.size, 0, rfl, by simp, fun i hi => ?_⟩⟩
  rcases (by omega : i = 0 ∨ i = 1 ∨ i = 2) with rfl | rfl | rfl <;> go_simp <;> rfl
theorem seq2 (w : World) (x y : Int) (hx : Amt x) (hy : Amt y) : Seq64 (w.alloc (.cells #[.int .i64 x, .int .i64 y] 2)) (some ⟨w.heap.size, 0, none⟩) 2 [x, y] := by
  refine ⟨rfl, amt_getD _ (by simp; exact ⟨hx, hy⟩), by decide, .inr ⟨w.heap.size, 0, rfl, by simp, fun i hi => ?_⟩⟩
  rcases (by omega : i = 0 ∨ i = 1) with rfl | rfl <;> go_simp <;> rfl

set_option maxRecDepth 100000 in
set_option maxHeartbeats 2000000 in
theorem awake_any (w : World) : Calls Try.prog 8 #[] w fun e w' => e = .returned (.bool true) ∧ Below w.heap.size w w' := by
  go_enter Try.func8, Try.ntmps8
  go_wp2_with fail
  refine (add_any _ _ _ (by decide) (by decide) (by decide) (by decide)).mono ?_
  rintro e w1 ⟨rfl, hb1⟩
  rw [show fitV (4611686018427387904 + 4611686018427387904) = 0 from by decide, show fitE (4611686018427387904 + 4611686018427387904) = 3 from by decide]
  go_wp2_with fail
  refine (sub_any _ _ _ (by decide) (by decide) (by decide) (by decide)).mono ?_
  rintro e w2 ⟨rfl, hb2⟩
  replace hb2 := chain_trans hb1 hb2; clear hb1
  rw [show fitV (-9223372036854775808 - -1) = -9223372036854775807 from by decide, show fitE (-9223372036854775808 - -1) = 0 from by decide]
  go_wp2_with fail
  refine (muldiv_any _ _ _ _ _ (by decide) (by decide) (by decide) (by decide) (by decide) (by decide)).mono ?_
  rintro e w3 ⟨rfl, hb3⟩
  replace hb3 := chain_trans hb2 hb3; clear hb2
  rw [show fitV (muldiv (-7) 3 2 false) = -11 from by decide, show fitE (muldiv (-7) 3 2 false) = 0 from by decide]
  go_wp2_with fail
  refine (muldiv_any _ _ _ _ _ (by decide) (by decide) (by decide) (by decide) (by decide) (by decide)).mono ?_
  rintro e w4 ⟨rfl, hb4⟩
  replace hb4 := chain_trans hb3 hb4; clear hb3
  rw [show fitV (muldiv (-7) 3 2 true) = -10 from by decide, show fitE (muldiv (-7) 3 2 true) = 0 from by decide]
  go_wp2_with fail
  refine (mul_any _ _ _ (by decide) (by decide) (by decide) (by decide)).mono ?_
  rintro e w5 ⟨rfl, hb5⟩
  replace hb5 := chain_trans hb4 hb5; clear hb4
  rw [show fitV (1099511627776 * 1073741824) = 0 from by decide, show fitE (1099511627776 * 1073741824) = 3 from by decide]
  go_wp2_with fail
  refine (muldiv_arg _ _ _ _ _ (by decide)).mono ?_
  rintro e w6 ⟨rfl, rfl⟩
  go_wp2_with fail
  refine (sum_any _ 3 3 _ _ (seq3 _ _ _ _ ⟨by decide, by decide⟩ ⟨by decide, by decide⟩ ⟨by decide, by decide⟩)).mono ?_
  rintro e w7 ⟨rfl, hb7⟩
  replace hb7 := chain_trans (hb5.alloc hb5.size _) hb7; clear hb5
  rw [show fitV (sumL [9223372036854775807, 1, -5]) = 9223372036854775803 from by decide, show fitE (sumL [9223372036854775807, 1, -5]) = 0 from by decide]
  go_wp2_with fail
  refine (chain_any _ _ 2 2 _ _ ⟨by decide, by decide⟩ (seq2 _ _ _ ⟨by decide, by decide⟩ ⟨by decide, by decide⟩)).mono ?_
  rintro e w8 ⟨rfl, hb8⟩
  replace hb8 := chain_trans (hb7.alloc hb7.size _) hb8; clear hb7
  rw [show (chainL 9223372036854775807 [1, -5]).1 = 0 from by decide, show (chainL 9223372036854775807 [1, -5]).2 = 3 from by decide]
  go_wp2_with fail
  refine (size_any _ _ (by decide) (by decide)).mono ?_
  rintro e w9 ⟨rfl, rfl⟩
  rw [show fitV (absI (-7)) = 7 from by decide, show fitE (absI (-7)) = 0 from by decide]
  go_wp2_with fail
  go_ret
  exact ⟨rfl, hb8⟩
end Go.Proofs.Ytjlfemiboobpiaa
