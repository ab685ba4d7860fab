/- The contract of the laws' awake. -/
import Derived.Test.YtghebijikdnikaaE1
namespace Go.Proofs.Ytghebijikdnikaa
open Go.RowKit
set_option linter.unusedVariables false

theorem ext_mk (l : List UInt8) (a b : Nat) : (⟨l.toArray⟩ : ByteArray).extract a b = ⟨((l.drop a).take (b - a)).toArray⟩ := by
  rw [ByteArray.extract_mk]
theorem mk_append (l m : List UInt8) : (⟨l.toArray⟩ : ByteArray) ++ ⟨m.toArray⟩ = ⟨(l ++ m).toArray⟩ := by
  rw [← mk_bl (_ ++ _)]
  congr 2
theorem mk_size (l : List UInt8) : (⟨l.toArray⟩ : ByteArray).size = l.length := by rw [sz, bl_mk]
theorem row_awake (w : World) : SRow (w.alloc (.cells #[.string ⟨#[97, 98]⟩, .string ⟨#[]⟩] 9)) (some ⟨w.heap.size, 0, none⟩) 2 [[97, 98], []] := by
  refine ⟨rfl, .inr ⟨w.heap.size, 0, rfl, by simp, fun i hi => ?_⟩⟩
  rw [cell_of_row _ w.heap.size _ _ 9 (0, 0) (heap_alloc_new w _)]
  obtain rfl | rfl : i = 0 ∨ i = 1 := by omega
  · rfl
  · rfl
theorem scan_awake : scan (frames [[97, 98], []] ++ [0]) = ([[97, 98], []], 18, 1) := by
  rw [scan_frames _ _ (by simp), show scan [0] = ([], 0, 1) from scan_stop (by unfold stop; rfl)]
  rfl

end Go.Proofs.Ytghebijikdnikaa
