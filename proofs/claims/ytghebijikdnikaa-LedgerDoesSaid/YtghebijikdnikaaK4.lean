/- The contract of frame's first. -/
import Derived.Test.YtghebijikdnikaaK3
import Derived.WalkSpells
import Derived.Lib.IndexBytes
namespace Go.Proofs.Ytghebijikdnikaa
open Go.RowKit
set_option linter.unusedVariables false

/-- what first tells of bytes: a record, or what they are -/
def FirstIs (l r : List UInt8) (c : Nat) : Prop := (stop l = none ∧ r = (l.drop 8).take (num l) ∧ c = 0) ∨ (stop l = some c ∧ r = [])
theorem sz (s : ByteArray) : s.size = (bl s).length := (bl_length s).symm
theorem ext_size (s : ByteArray) (a b : Nat) (h : b ≤ s.size) : (s.extract a b).size = b - a := by
  rw [sz]
  unfold bl
  rw [Lib.extract_data, List.length_take, List.length_drop]
  have := bl_length s
  unfold bl at this
  omega
theorem bl_mk (l : List UInt8) : bl ⟨l.toArray⟩ = l := by simp [bl]
theorem mk_bl (s : ByteArray) : (⟨(bl s).toArray⟩ : ByteArray) = s := by simp [bl]

end Go.Proofs.Ytghebijikdnikaa
