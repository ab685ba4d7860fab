/- The reference's check of bytes: its contract. -/
import Derived.Test.YtghebijikdnikaaProg
import Derived.Test.YtghebijikdnikaaC1
import Derived.WalkKit
import Derived.Below
import Derived.Lib.Hide
import Derived.Outline
import Derived.OwnWalk
import Derived.IntWalk
import Derived.Deep.QuietTactic
import Derived.BigQuiet
import Derived.Deep.LoopGhost
import Derived.Deep.DeepCutAuto
import Derived.Deep.CutBlock
import Derived.Deep.RegionWith
namespace Go.Proofs.Ytghebijikdnikaa
open Go.RowKit
set_option linter.unusedVariables false

/-- the bytes of a string -/
abbrev bl (s : ByteArray) : List UInt8 := s.data.toList
theorem bl_length (s : ByteArray) : (bl s).length = s.size := by show s.data.toList.length = s.data.size; simp
theorem take_snoc (s : ByteArray) (k : Nat) (h : k < s.size) : (bl s).take (k + 1) = (bl s).take k ++ [s[k]] := by
  rw [List.take_succ_eq_append_getElem (by rw [bl_length]; exact h)]; rfl
theorem xor_u32 (a b : Nat) (ha : a < 4294967296) (hb : b < 4294967296) : bits .xor .u32 (a : Int) (b : Int) = ((a ^^^ b : Nat) : Int) := u32_xor_nat a b ha hb
theorem half_odd (c : Nat) (h : c % 2 = 1) : half1 c = c / 2 ^^^ 3988292384 := by unfold half1; rw [if_pos h]
theorem half_even (c : Nat) (h : ¬ c % 2 = 1) : half1 c = c / 2 := by unfold half1; rw [if_neg h]
theorem halves_succ (k c : Nat) : halves (k + 1) c = halves k (half1 c) := rfl

end Go.Proofs.Ytghebijikdnikaa
