/-
  No cell of these rows narrows 'for every input' (looked for: loops, veiled, ifaces, maps, wideKeys, modest, calm, conditions, laid).
  DERIVED. THE GIVEN ROWS OF THIS SEAT. 3 by the template 'for every input the law returns true; each argument reads behind the call as it read before'; 0 by the template 'total and deterministic' (their statements: YtljclgphgojphaaGreatTotals.lean).
  GIVEN WITH THE SEED: the statements are not yours to turn. If you find one false, say at which input.
  Laid BY PROGRAM, IN A SANDBOX (cutbox-rows.mjs): the forced cells as the released guide's own fill.sh prints them over the translation 2b4e000ca98292c7… (all of the seat's roots in one cut). By AI agents, Wed Nov 11 2026. No macro, syntax, notation, axiom, sorry.
-/
import Derived.Test.YtljclgphgojphaaGreatChecked
import GoSem.Claim
import GoSem.ClaimJoined
import GoSem.ClaimMapViews
import Derived.JoinedTies
import Derived.KernelRfl
namespace Go.Proofs.YtljclgphgojphaaGreat
/- THE CELL 'sum', in the pinned program and in every row, IS THE sha256 OF THE DUMP (.gsa) THAT YtljclgphgojphaaGreatProg.lean LOADS. Nothing in Lean hashes anything: it is a label: what it is worth is what the hold of that sum in a sandbox is worth. -/
noncomputable def Tryz.pinned : Pinned := { name := "ytljclgphgojphaagreat", sum := "2b4e000ca98292c7b583537472537b2e5b3759957585866bf488921f974144af", checked := Tryz.checked }
namespace Rows
def none {H : Type} : Left H := { results := [], args := [] }

/-- 'nostrolaw10.RiskDoes': WHATEVER THE INPUT: true; the input reads as it did. -/
def riskDoesSpec : ChangeSpec := { name := "riskDoes", fn := fun _ => fun
  | [d1, d2, d3, d4, d5] => { results := [.lit (.bool true)], args := [d1, d2, d3, d4, d5] }
  | _ => none }
def riskDoesRow : OpenClaim := { program := "ytljclgphgojphaagreat", sum := "2b4e000ca98292c7b583537472537b2e5b3759957585866bf488921f974144af", func := "nostro/nostrolaw10.RiskDoes", spec := "riskDoes", inPlace := ["math/bits.Add64"], unfollowed := true, recurses := true, named := ["math/bits.divideError", "math/bits.overflowError"], apart := false }
def RiskDoesSaid : Prop := riskDoesRow.holds Tryz.pinned (OpenSpec.ofChange riskDoesSpec)

/-- ITS FALSE NEIGHBOUR: 'it returns false'. Refute it at one input. -/
def riskDoesWrong : ChangeSpec := { name := "riskDoes", fn := fun _ => fun
  | [d1, d2, d3, d4, d5] => { results := [.lit (.bool false)], args := [d1, d2, d3, d4, d5] }
  | _ => none }
def RiskDoesWrongFalsely : Prop := riskDoesRow.holds Tryz.pinned (OpenSpec.ofChange riskDoesWrong)

/-- 'nostrolaw10.RiskHolds': WHATEVER THE INPUT: true; the input reads as it did. -/
def riskHoldsSpec : ChangeSpec := { name := "riskHolds", fn := fun _ => fun
  | [d1, d2, d3] => { results := [.lit (.bool true)], args := [d1, d2, d3] }
  | _ => none }
def riskHoldsRow : OpenClaim := { program := "ytljclgphgojphaagreat", sum := "2b4e000ca98292c7b583537472537b2e5b3759957585866bf488921f974144af", func := "nostro/nostrolaw10.RiskHolds", spec := "riskHolds", inPlace := ["math/bits.Add64"], unfollowed := true, recurses := true, named := ["math/bits.divideError", "math/bits.overflowError"], apart := false }
def RiskHoldsSaid : Prop := riskHoldsRow.holds Tryz.pinned (OpenSpec.ofChange riskHoldsSpec)

/-- ITS FALSE NEIGHBOUR: 'it returns false'. Refute it at one input. -/
def riskHoldsWrong : ChangeSpec := { name := "riskHolds", fn := fun _ => fun
  | [d1, d2, d3] => { results := [.lit (.bool false)], args := [d1, d2, d3] }
  | _ => none }
def RiskHoldsWrongFalsely : Prop := riskHoldsRow.holds Tryz.pinned (OpenSpec.ofChange riskHoldsWrong)

/-- 'nostrolaw10.RiskSpares': WHATEVER THE INPUT: true; the input reads as it did. -/
def riskSparesSpec : ChangeSpec := { name := "riskSpares", fn := fun _ => fun
  | [d1, d2, d3] => { results := [.lit (.bool true)], args := [d1, d2, d3] }
  | _ => none }
def riskSparesRow : OpenClaim := { program := "ytljclgphgojphaagreat", sum := "2b4e000ca98292c7b583537472537b2e5b3759957585866bf488921f974144af", func := "nostro/nostrolaw10.RiskSpares", spec := "riskSpares", inPlace := ["math/bits.Add64"], unfollowed := true, recurses := true, named := ["math/bits.divideError", "math/bits.overflowError"], apart := false }
def RiskSparesSaid : Prop := riskSparesRow.holds Tryz.pinned (OpenSpec.ofChange riskSparesSpec)

/-- ITS FALSE NEIGHBOUR: 'it returns false'. Refute it at one input. -/
def riskSparesWrong : ChangeSpec := { name := "riskSpares", fn := fun _ => fun
  | [d1, d2, d3] => { results := [.lit (.bool false)], args := [d1, d2, d3] }
  | _ => none }
def RiskSparesWrongFalsely : Prop := riskSparesRow.holds Tryz.pinned (OpenSpec.ofChange riskSparesWrong)

/- THE SECOND FORM. 'bulk': how many values and letters a reading holds, each counted each time it is reached (what is shared counts as often as it is met; a slice's spare places count too). A statement '..UptoSaid' is the law's where the arguments, and the package variables that the reading takes, are together of bulk at most 1048576: NARROWER than '..Said'. Prove '..Said' where nothing that the law and all that it calls make is longer than what came in: it says more and counts as full. Else prove '..UptoSaid'. A law counts once. -/
mutual
def uptoBulk {H : Type} : DataW H → Nat
  | .lit (.string bytes) => bytes.length + 1
  | .lit _ => 1
  | .nil => 1
  | .ptr d => uptoBulk d + 1
  | .slice elems spare => uptoBulkAll elems + uptoBulkAll spare + 1
  | .agg parts => uptoBulkAll parts + 1
  | .iface _ d => uptoBulk d + 1
  | .map entries => uptoBulkEntries entries + 1
  | .held _ => 1
def uptoBulkAll {H : Type} : List (DataW H) → Nat
  | [] => 0
  | d :: r => uptoBulk d + uptoBulkAll r
def uptoBulkEntries {H : Type} : List (Lit × DataW H) → Nat
  | [] => 0
  | x :: r => uptoBulkEntry x + uptoBulkEntries r
def uptoBulkEntry {H : Type} : Lit × DataW H → Nat
  | (.string bytes, d) => bytes.length + uptoBulk d + 1
  | (_, d) => uptoBulk d + 1
 end
def uptoSmall : (H : Type) → List (DataW H) → Bool := fun _ ds => decide (uptoBulkAll ds ≤ 1048576)
def OpenSpec.upto (s : _root_.Go.ChangeSpec) : _root_.Go.OpenSpec := { _root_.Go.OpenSpec.ofChange s with cond := some uptoSmall }

/-- 'nostrolaw10.RiskDoes', WHERE WHAT IT READS IS OF BULK AT MOST 1048576: true; the input reads as it did. -/
def riskDoesUptoRow : OpenClaim := { program := "ytljclgphgojphaagreat", sum := "2b4e000ca98292c7b583537472537b2e5b3759957585866bf488921f974144af", func := "nostro/nostrolaw10.RiskDoes", spec := "riskDoes", inPlace := ["math/bits.Add64"], unfollowed := true, recurses := true, named := ["math/bits.divideError", "math/bits.overflowError"], apart := false, narrowed := true }
def RiskDoesUptoSaid : Prop := riskDoesUptoRow.holds Tryz.pinned (OpenSpec.upto riskDoesSpec)

/-- 'nostrolaw10.RiskHolds', WHERE WHAT IT READS IS OF BULK AT MOST 1048576: true; the input reads as it did. -/
def riskHoldsUptoRow : OpenClaim := { program := "ytljclgphgojphaagreat", sum := "2b4e000ca98292c7b583537472537b2e5b3759957585866bf488921f974144af", func := "nostro/nostrolaw10.RiskHolds", spec := "riskHolds", inPlace := ["math/bits.Add64"], unfollowed := true, recurses := true, named := ["math/bits.divideError", "math/bits.overflowError"], apart := false, narrowed := true }
def RiskHoldsUptoSaid : Prop := riskHoldsUptoRow.holds Tryz.pinned (OpenSpec.upto riskHoldsSpec)

/-- 'nostrolaw10.RiskSpares', WHERE WHAT IT READS IS OF BULK AT MOST 1048576: true; the input reads as it did. -/
def riskSparesUptoRow : OpenClaim := { program := "ytljclgphgojphaagreat", sum := "2b4e000ca98292c7b583537472537b2e5b3759957585866bf488921f974144af", func := "nostro/nostrolaw10.RiskSpares", spec := "riskSpares", inPlace := ["math/bits.Add64"], unfollowed := true, recurses := true, named := ["math/bits.divideError", "math/bits.overflowError"], apart := false, narrowed := true }
def RiskSparesUptoSaid : Prop := riskSparesUptoRow.holds Tryz.pinned (OpenSpec.upto riskSparesSpec)

end Rows
end Go.Proofs.YtljclgphgojphaaGreat
