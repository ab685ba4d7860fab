/-
  No cell of these rows narrows 'for every input' (looked for: loops, veiled, ifaces, maps, wideKeys, modest, calm, conditions, laid).
  DERIVED. THE GIVEN ROWS OF THIS SEAT. 3 by the template 'for every input the law returns true; each argument reads behind the call as it read before'; 0 by the template 'total and deterministic' (their statements: YtllhpdohahoelaaTotals.lean).
  GIVEN WITH THE SEED: the statements are not yours to turn. If you find one false, say at which input.
  Laid BY PROGRAM, IN A SANDBOX (cutbox-rows.mjs): the forced cells as the released guide's own fill.sh prints them over the translation 6953e11a2e61899a… (all of the seat's roots in one cut). By AI agents, Wed Nov 11 2026. No macro, syntax, notation, axiom, sorry.
-/
import Derived.Test.YtllhpdohahoelaaChecked
import GoSem.Claim
import GoSem.ClaimJoined
import GoSem.ClaimMapViews
import Derived.JoinedTies
import Derived.KernelRfl
namespace Go.Proofs.Ytllhpdohahoelaa
/- THE CELL 'sum', in the pinned program and in every row, IS THE sha256 OF THE DUMP (.gsa) THAT YtllhpdohahoelaaProg.lean LOADS. Nothing in Lean hashes anything: it is a label: what it is worth is what the hold of that sum in a sandbox is worth. -/
noncomputable def Try.pinned : Pinned := { name := "ytllhpdohahoelaa", sum := "6953e11a2e61899aced1eb390312b0fcf787a7adbce7b2b91c2bbe1dcc200658", checked := Try.checked }
namespace Rows
def none {H : Type} : Left H := { results := [], args := [] }

/-- 'nostrolaw09.WorthTells': WHATEVER THE INPUT: true; the input reads as it did. -/
def worthTellsSpec : ChangeSpec := { name := "worthTells", fn := fun _ => fun
  | [d1, d2, d3, d4] => { results := [.lit (.bool true)], args := [d1, d2, d3, d4] }
  | _ => none }
def worthTellsRow : OpenClaim := { program := "ytllhpdohahoelaa", sum := "6953e11a2e61899aced1eb390312b0fcf787a7adbce7b2b91c2bbe1dcc200658", func := "nostro/nostrolaw09.WorthTells", spec := "worthTells", inPlace := ["math/bits.Add64"], unfollowed := true, recurses := true, named := ["math/bits.divideError", "math/bits.overflowError"], apart := false }
def WorthTellsSaid : Prop := worthTellsRow.holds Try.pinned (OpenSpec.ofChange worthTellsSpec)

/-- ITS FALSE NEIGHBOUR: 'it returns false'. Refute it at one input. -/
def worthTellsWrong : ChangeSpec := { name := "worthTells", fn := fun _ => fun
  | [d1, d2, d3, d4] => { results := [.lit (.bool false)], args := [d1, d2, d3, d4] }
  | _ => none }
def WorthTellsWrongFalsely : Prop := worthTellsRow.holds Try.pinned (OpenSpec.ofChange worthTellsWrong)

/-- 'nostrolaw09.WorthKept': WHATEVER THE INPUT: true; the input reads as it did. -/
def worthKeptSpec : ChangeSpec := { name := "worthKept", fn := fun _ => fun
  | [d1, d2, d3] => { results := [.lit (.bool true)], args := [d1, d2, d3] }
  | _ => none }
def worthKeptRow : OpenClaim := { program := "ytllhpdohahoelaa", sum := "6953e11a2e61899aced1eb390312b0fcf787a7adbce7b2b91c2bbe1dcc200658", func := "nostro/nostrolaw09.WorthKept", spec := "worthKept", inPlace := ["math/bits.Add64"], unfollowed := true, recurses := true, named := ["math/bits.divideError", "math/bits.overflowError"], apart := false }
def WorthKeptSaid : Prop := worthKeptRow.holds Try.pinned (OpenSpec.ofChange worthKeptSpec)

/-- ITS FALSE NEIGHBOUR: 'it returns false'. Refute it at one input. -/
def worthKeptWrong : ChangeSpec := { name := "worthKept", fn := fun _ => fun
  | [d1, d2, d3] => { results := [.lit (.bool false)], args := [d1, d2, d3] }
  | _ => none }
def WorthKeptWrongFalsely : Prop := worthKeptRow.holds Try.pinned (OpenSpec.ofChange worthKeptWrong)

/-- 'nostrolaw09.WorthCuts': WHATEVER THE INPUT: true; the input reads as it did. -/
def worthCutsSpec : ChangeSpec := { name := "worthCuts", fn := fun _ => fun
  | [d1, d2, d3, d4, d5, d6] => { results := [.lit (.bool true)], args := [d1, d2, d3, d4, d5, d6] }
  | _ => none }
def worthCutsRow : OpenClaim := { program := "ytllhpdohahoelaa", sum := "6953e11a2e61899aced1eb390312b0fcf787a7adbce7b2b91c2bbe1dcc200658", func := "nostro/nostrolaw09.WorthCuts", spec := "worthCuts", inPlace := ["math/bits.Add64"], unfollowed := true, recurses := true, named := ["math/bits.divideError", "math/bits.overflowError"], apart := false }
def WorthCutsSaid : Prop := worthCutsRow.holds Try.pinned (OpenSpec.ofChange worthCutsSpec)

/-- ITS FALSE NEIGHBOUR: 'it returns false'. Refute it at one input. -/
def worthCutsWrong : ChangeSpec := { name := "worthCuts", fn := fun _ => fun
  | [d1, d2, d3, d4, d5, d6] => { results := [.lit (.bool false)], args := [d1, d2, d3, d4, d5, d6] }
  | _ => none }
def WorthCutsWrongFalsely : Prop := worthCutsRow.holds Try.pinned (OpenSpec.ofChange worthCutsWrong)

/- THE SECOND FORM. 'bulk': how many values and letters a reading holds, each counted each time it is reached (what is shared counts as often as it is met; a slice's spare places count too). A statement '..UptoSaid' is the law's where the arguments, and the package variables that the reading takes, are together of bulk at most 1048576: NARROWER than '..Said'. Prove '..Said' where nothing that the law and all that it calls make is longer than what came in: it says more and counts as full. Else prove '..UptoSaid'. A law counts once. -/
mutual
def uptoBulk {H : Type} : DataW H → Nat
  | .lit (.string bytes) => bytes.length + 1
  | .lit _ => 1
  | .nil => 1
  | .ptr d => uptoBulk d + 1
  | .slice elems spare => uptoBulkAll elems + uptoBulkAll spare + 1
  | .agg parts => uptoBulkAll parts + 1
  | .iface _ d => uptoBulk d + 1
  | .map entries => uptoBulkEntries entries + 1
  | .held _ => 1
def uptoBulkAll {H : Type} : List (DataW H) → Nat
  | [] => 0
  | d :: r => uptoBulk d + uptoBulkAll r
def uptoBulkEntries {H : Type} : List (Lit × DataW H) → Nat
  | [] => 0
  | x :: r => uptoBulkEntry x + uptoBulkEntries r
def uptoBulkEntry {H : Type} : Lit × DataW H → Nat
  | (.string bytes, d) => bytes.length + uptoBulk d + 1
  | (_, d) => uptoBulk d + 1
 end
def uptoSmall : (H : Type) → List (DataW H) → Bool := fun _ ds => decide (uptoBulkAll ds ≤ 1048576)
def OpenSpec.upto (s : _root_.Go.ChangeSpec) : _root_.Go.OpenSpec := { _root_.Go.OpenSpec.ofChange s with cond := some uptoSmall }

/-- 'nostrolaw09.WorthTells', WHERE WHAT IT READS IS OF BULK AT MOST 1048576: true; the input reads as it did. -/
def worthTellsUptoRow : OpenClaim := { program := "ytllhpdohahoelaa", sum := "6953e11a2e61899aced1eb390312b0fcf787a7adbce7b2b91c2bbe1dcc200658", func := "nostro/nostrolaw09.WorthTells", spec := "worthTells", inPlace := ["math/bits.Add64"], unfollowed := true, recurses := true, named := ["math/bits.divideError", "math/bits.overflowError"], apart := false, narrowed := true }
def WorthTellsUptoSaid : Prop := worthTellsUptoRow.holds Try.pinned (OpenSpec.upto worthTellsSpec)

/-- 'nostrolaw09.WorthKept', WHERE WHAT IT READS IS OF BULK AT MOST 1048576: true; the input reads as it did. -/
def worthKeptUptoRow : OpenClaim := { program := "ytllhpdohahoelaa", sum := "6953e11a2e61899aced1eb390312b0fcf787a7adbce7b2b91c2bbe1dcc200658", func := "nostro/nostrolaw09.WorthKept", spec := "worthKept", inPlace := ["math/bits.Add64"], unfollowed := true, recurses := true, named := ["math/bits.divideError", "math/bits.overflowError"], apart := false, narrowed := true }
def WorthKeptUptoSaid : Prop := worthKeptUptoRow.holds Try.pinned (OpenSpec.upto worthKeptSpec)

/-- 'nostrolaw09.WorthCuts', WHERE WHAT IT READS IS OF BULK AT MOST 1048576: true; the input reads as it did. -/
def worthCutsUptoRow : OpenClaim := { program := "ytllhpdohahoelaa", sum := "6953e11a2e61899aced1eb390312b0fcf787a7adbce7b2b91c2bbe1dcc200658", func := "nostro/nostrolaw09.WorthCuts", spec := "worthCuts", inPlace := ["math/bits.Add64"], unfollowed := true, recurses := true, named := ["math/bits.divideError", "math/bits.overflowError"], apart := false, narrowed := true }
def WorthCutsUptoSaid : Prop := worthCutsUptoRow.holds Try.pinned (OpenSpec.upto worthCutsSpec)

end Rows
end Go.Proofs.Ytllhpdohahoelaa
