/-
  No cell of these rows narrows 'for every input' (looked for: loops, veiled, ifaces, maps, wideKeys, modest, calm, conditions, laid).
  DERIVED. THE GIVEN ROWS OF THIS SEAT. 4 by the template 'for every input the law returns true; each argument reads behind the call as it read before'; 0 by the template 'total and deterministic' (their statements: YtiehbbhjpcnbnaaGreatTotals.lean).
  GIVEN WITH THE SEED: the statements are not yours to turn. If you find one false, say at which input.
  Laid BY PROGRAM, IN A SANDBOX (cutbox-rows.mjs): the forced cells as the released guide's own fill.sh prints them over the translation 1b6360e7407a6063… (all of the seat's roots in one cut). By AI agents, Wed Nov 11 2026. No macro, syntax, notation, axiom, sorry.
-/
import Derived.Test.YtiehbbhjpcnbnaaGreatChecked
import GoSem.Claim
import GoSem.ClaimJoined
import GoSem.ClaimMapViews
import Derived.JoinedTies
import Derived.KernelRfl
namespace Go.Proofs.YtiehbbhjpcnbnaaGreat
/- THE CELL 'sum', in the pinned program and in every row, IS THE sha256 OF THE DUMP (.gsa) THAT YtiehbbhjpcnbnaaGreatProg.lean LOADS. Nothing in Lean hashes anything: it is a label: what it is worth is what the hold of that sum in a sandbox is worth. -/
noncomputable def Tryz.pinned : Pinned := { name := "ytiehbbhjpcnbnaagreat", sum := "1b6360e7407a60633731329f5893548bcf550fe5e650043c7124c743b31a89f3", checked := Tryz.checked }
namespace Rows
def none {H : Type} : Left H := { results := [], args := [] }

/-- 'nostrolaw12.SettleBoth': WHATEVER THE INPUT: true; the input reads as it did. -/
def settleBothSpec : ChangeSpec := { name := "settleBoth", fn := fun _ => fun
  | [d] => { results := [.lit (.bool true)], args := [d] }
  | _ => none }
def settleBothRow : OpenClaim := { program := "ytiehbbhjpcnbnaagreat", sum := "1b6360e7407a60633731329f5893548bcf550fe5e650043c7124c743b31a89f3", func := "nostro/nostrolaw12.SettleBoth", spec := "settleBoth", inPlace := ["math/bits.Add64"], unfollowed := true, recurses := true, named := ["math/bits.divideError", "math/bits.overflowError"], apart := false }
def SettleBothSaid : Prop := settleBothRow.holds Tryz.pinned (OpenSpec.ofChange settleBothSpec)

/-- ITS FALSE NEIGHBOUR: 'it returns false'. Refute it at one input. -/
def settleBothWrong : ChangeSpec := { name := "settleBoth", fn := fun _ => fun
  | [d] => { results := [.lit (.bool false)], args := [d] }
  | _ => none }
def SettleBothWrongFalsely : Prop := settleBothRow.holds Tryz.pinned (OpenSpec.ofChange settleBothWrong)

/-- 'nostrolaw12.SettleEnds': WHATEVER THE INPUT: true; the input reads as it did. -/
def settleEndsSpec : ChangeSpec := { name := "settleEnds", fn := fun _ => fun
  | [d] => { results := [.lit (.bool true)], args := [d] }
  | _ => none }
def settleEndsRow : OpenClaim := { program := "ytiehbbhjpcnbnaagreat", sum := "1b6360e7407a60633731329f5893548bcf550fe5e650043c7124c743b31a89f3", func := "nostro/nostrolaw12.SettleEnds", spec := "settleEnds", inPlace := ["math/bits.Add64"], unfollowed := true, recurses := true, named := ["math/bits.divideError", "math/bits.overflowError"], apart := false }
def SettleEndsSaid : Prop := settleEndsRow.holds Tryz.pinned (OpenSpec.ofChange settleEndsSpec)

/-- ITS FALSE NEIGHBOUR: 'it returns false'. Refute it at one input. -/
def settleEndsWrong : ChangeSpec := { name := "settleEnds", fn := fun _ => fun
  | [d] => { results := [.lit (.bool false)], args := [d] }
  | _ => none }
def SettleEndsWrongFalsely : Prop := settleEndsRow.holds Tryz.pinned (OpenSpec.ofChange settleEndsWrong)

/-- 'nostrolaw12.SettleAll': WHATEVER THE INPUT: true; the input reads as it did. -/
def settleAllSpec : ChangeSpec := { name := "settleAll", fn := fun _ => fun
  | [d] => { results := [.lit (.bool true)], args := [d] }
  | _ => none }
def settleAllRow : OpenClaim := { program := "ytiehbbhjpcnbnaagreat", sum := "1b6360e7407a60633731329f5893548bcf550fe5e650043c7124c743b31a89f3", func := "nostro/nostrolaw12.SettleAll", spec := "settleAll", inPlace := ["math/bits.Add64"], unfollowed := true, recurses := true, named := ["math/bits.divideError", "math/bits.overflowError"], apart := false }
def SettleAllSaid : Prop := settleAllRow.holds Tryz.pinned (OpenSpec.ofChange settleAllSpec)

/-- ITS FALSE NEIGHBOUR: 'it returns false'. Refute it at one input. -/
def settleAllWrong : ChangeSpec := { name := "settleAll", fn := fun _ => fun
  | [d] => { results := [.lit (.bool false)], args := [d] }
  | _ => none }
def SettleAllWrongFalsely : Prop := settleAllRow.holds Tryz.pinned (OpenSpec.ofChange settleAllWrong)

/-- 'nostrolaw12.SettleFirst': WHATEVER THE INPUT: true; the input reads as it did. -/
def settleFirstSpec : ChangeSpec := { name := "settleFirst", fn := fun _ => fun
  | [d] => { results := [.lit (.bool true)], args := [d] }
  | _ => none }
def settleFirstRow : OpenClaim := { program := "ytiehbbhjpcnbnaagreat", sum := "1b6360e7407a60633731329f5893548bcf550fe5e650043c7124c743b31a89f3", func := "nostro/nostrolaw12.SettleFirst", spec := "settleFirst", inPlace := ["math/bits.Add64"], unfollowed := true, recurses := true, named := ["math/bits.divideError", "math/bits.overflowError"], apart := false }
def SettleFirstSaid : Prop := settleFirstRow.holds Tryz.pinned (OpenSpec.ofChange settleFirstSpec)

/-- ITS FALSE NEIGHBOUR: 'it returns false'. Refute it at one input. -/
def settleFirstWrong : ChangeSpec := { name := "settleFirst", fn := fun _ => fun
  | [d] => { results := [.lit (.bool false)], args := [d] }
  | _ => none }
def SettleFirstWrongFalsely : Prop := settleFirstRow.holds Tryz.pinned (OpenSpec.ofChange settleFirstWrong)

/- THE SECOND FORM. 'bulk': how many values and letters a reading holds, each counted each time it is reached (what is shared counts as often as it is met; a slice's spare places count too). A statement '..UptoSaid' is the law's where the arguments, and the package variables that the reading takes, are together of bulk at most 1048576: NARROWER than '..Said'. Prove '..Said' where nothing that the law and all that it calls make is longer than what came in: it says more and counts as full. Else prove '..UptoSaid'. A law counts once. -/
mutual
def uptoBulk {H : Type} : DataW H → Nat
  | .lit (.string bytes) => bytes.length + 1
  | .lit _ => 1
  | .nil => 1
  | .ptr d => uptoBulk d + 1
  | .slice elems spare => uptoBulkAll elems + uptoBulkAll spare + 1
  | .agg parts => uptoBulkAll parts + 1
  | .iface _ d => uptoBulk d + 1
  | .map entries => uptoBulkEntries entries + 1
  | .held _ => 1
def uptoBulkAll {H : Type} : List (DataW H) → Nat
  | [] => 0
  | d :: r => uptoBulk d + uptoBulkAll r
def uptoBulkEntries {H : Type} : List (Lit × DataW H) → Nat
  | [] => 0
  | x :: r => uptoBulkEntry x + uptoBulkEntries r
def uptoBulkEntry {H : Type} : Lit × DataW H → Nat
  | (.string bytes, d) => bytes.length + uptoBulk d + 1
  | (_, d) => uptoBulk d + 1
 end
def uptoSmall : (H : Type) → List (DataW H) → Bool := fun _ ds => decide (uptoBulkAll ds ≤ 1048576)
def OpenSpec.upto (s : _root_.Go.ChangeSpec) : _root_.Go.OpenSpec := { _root_.Go.OpenSpec.ofChange s with cond := some uptoSmall }

/-- 'nostrolaw12.SettleBoth', WHERE WHAT IT READS IS OF BULK AT MOST 1048576: true; the input reads as it did. -/
def settleBothUptoRow : OpenClaim := { program := "ytiehbbhjpcnbnaagreat", sum := "1b6360e7407a60633731329f5893548bcf550fe5e650043c7124c743b31a89f3", func := "nostro/nostrolaw12.SettleBoth", spec := "settleBoth", inPlace := ["math/bits.Add64"], unfollowed := true, recurses := true, named := ["math/bits.divideError", "math/bits.overflowError"], apart := false, narrowed := true }
def SettleBothUptoSaid : Prop := settleBothUptoRow.holds Tryz.pinned (OpenSpec.upto settleBothSpec)

/-- 'nostrolaw12.SettleEnds', WHERE WHAT IT READS IS OF BULK AT MOST 1048576: true; the input reads as it did. -/
def settleEndsUptoRow : OpenClaim := { program := "ytiehbbhjpcnbnaagreat", sum := "1b6360e7407a60633731329f5893548bcf550fe5e650043c7124c743b31a89f3", func := "nostro/nostrolaw12.SettleEnds", spec := "settleEnds", inPlace := ["math/bits.Add64"], unfollowed := true, recurses := true, named := ["math/bits.divideError", "math/bits.overflowError"], apart := false, narrowed := true }
def SettleEndsUptoSaid : Prop := settleEndsUptoRow.holds Tryz.pinned (OpenSpec.upto settleEndsSpec)

/-- 'nostrolaw12.SettleAll', WHERE WHAT IT READS IS OF BULK AT MOST 1048576: true; the input reads as it did. -/
def settleAllUptoRow : OpenClaim := { program := "ytiehbbhjpcnbnaagreat", sum := "1b6360e7407a60633731329f5893548bcf550fe5e650043c7124c743b31a89f3", func := "nostro/nostrolaw12.SettleAll", spec := "settleAll", inPlace := ["math/bits.Add64"], unfollowed := true, recurses := true, named := ["math/bits.divideError", "math/bits.overflowError"], apart := false, narrowed := true }
def SettleAllUptoSaid : Prop := settleAllUptoRow.holds Tryz.pinned (OpenSpec.upto settleAllSpec)

/-- 'nostrolaw12.SettleFirst', WHERE WHAT IT READS IS OF BULK AT MOST 1048576: true; the input reads as it did. -/
def settleFirstUptoRow : OpenClaim := { program := "ytiehbbhjpcnbnaagreat", sum := "1b6360e7407a60633731329f5893548bcf550fe5e650043c7124c743b31a89f3", func := "nostro/nostrolaw12.SettleFirst", spec := "settleFirst", inPlace := ["math/bits.Add64"], unfollowed := true, recurses := true, named := ["math/bits.divideError", "math/bits.overflowError"], apart := false, narrowed := true }
def SettleFirstUptoSaid : Prop := settleFirstUptoRow.holds Tryz.pinned (OpenSpec.upto settleFirstSpec)

end Rows
end Go.Proofs.YtiehbbhjpcnbnaaGreat
