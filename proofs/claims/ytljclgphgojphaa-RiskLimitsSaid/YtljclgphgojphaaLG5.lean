/- The contracts of the reference's eight, Text. -/
import Derived.Test.YtljclgphgojphaaLG2
import Derived.StillTailTactics
namespace Go.Proofs.Ytljclgphgojphaa
open Go.RowKit
set_option linter.unusedVariables false

theorem joinT (a b : List UInt8) (w : World) (h : a.length + b.length ≤ 1000000) : (Op.stringOp .add (⟨a.toArray⟩ : ByteArray) (⟨b.toArray⟩ : ByteArray)).run Try.prog w = .ok (.string ⟨(a ++ b).toArray⟩) w := by
  rw [run_string_add_sum w _ _ (by rw [mk_size, mk_size]; omega), mk_append]
theorem wrap_toU (n : Int) : IntKind.u64.wrap n = (toU n : Nat) := by
  rw [IntKind.wrap_u64]
  unfold toU
  omega
theorem bes_step (k n : Nat) : bes (k + 1) n = UInt8.ofNat (n / 256 ^ k % 256) :: bes k n := rfl
theorem rowB_succ (f : Nat → Int) (n : Nat) : rowB f (n + 1) = rowB f n ++ bes 8 (toU (f n)) := rfl
theorem rowsB_succ (B : Nat → Nat → Int) (nc m : Nat) : rowsB B nc (m + 1) = rowsB B nc m ++ rowB (B m) nc := rfl

end Go.Proofs.Ytljclgphgojphaa
