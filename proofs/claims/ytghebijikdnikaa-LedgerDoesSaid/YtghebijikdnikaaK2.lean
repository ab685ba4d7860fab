/- The code's check of bytes by the array of checks of single bytes: the contracts of of, Check. -/
import Derived.Test.YtghebijikdnikaaK1
namespace Go.Proofs.Ytghebijikdnikaa
open Go.RowKit
set_option linter.unusedVariables false

/-- block g holds the checks of single bytes -/
def Tbl (w : World) (g : Nat) : Prop := g < w.heap.size ∧ ∀ i, i < 256 → w.cell? ⟨g, i, none⟩ = some (.int .u32 ((halves 8 i : Nat) : Int))
theorem Tbl.kept {w w' : World} {g B : Nat} (h : Tbl w g) (hb : Below B w w') (hg : g < B) : Tbl w' g := by
  refine ⟨by have := hb.size; have := h.1; omega, fun i hi => ?_⟩
  rw [hb.cell (p := ⟨g, i, none⟩) hg]; exact h.2 i hi
theorem Tbl.drewN {w : World} {g : Nat} (h : Tbl w g) (n : Nat) : Tbl (w.drewN n) g := h

theorem xor_u8 (a b : Nat) (ha : a < 256) (hb : b < 256) : bits .xor .u8 (a : Int) (b : Int) = ((a ^^^ b : Nat) : Int) := u8_xor_nat a b ha hb

end Go.Proofs.Ytghebijikdnikaa
