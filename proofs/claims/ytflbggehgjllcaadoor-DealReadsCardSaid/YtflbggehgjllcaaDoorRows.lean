/-
  NARROWER THAN 'FOR EVERY INPUT', by the rows' own cells (each row's printed sentence says how): DealDoes: laid · DealReads: laid · DealTwo: laid · DealStays: laid.
  DERIVED. THE GIVEN ROWS OF THIS SEAT. 4 by the template 'for every input the law returns true; each argument reads behind the call as it read before'; 0 by the template 'total and deterministic' (their statements: YtflbggehgjllcaaDoorTotals.lean).
  GIVEN WITH THE SEED: the statements are not yours to turn. If you find one false, say at which input.
  Laid BY PROGRAM, IN A SANDBOX (cutbox-rows.mjs): the forced cells as the released guide's own fill.sh prints them over the translation 1521d73703ff9d41… (all of the seat's roots in one cut). By AI agents, Wed Nov 11 2026. No macro, syntax, notation, axiom, sorry.
-/
import Derived.Test.YtflbggehgjllcaaDoorChecked
import GoSem.Claim
import GoSem.ClaimJoined
import GoSem.ClaimMapViews
import Derived.JoinedTies
import Derived.KernelRfl
namespace Go.Proofs.YtflbggehgjllcaaDoor
/- THE CELL 'sum', in the pinned program and in every row, IS THE sha256 OF THE DUMP (.gsa) THAT YtflbggehgjllcaaDoorProg.lean LOADS. Nothing in Lean hashes anything: it is a label: what it is worth is what the hold of that sum in a sandbox is worth. -/
noncomputable def Tryd.pinned : Pinned := { name := "ytflbggehgjllcaadoor", sum := "1521d73703ff9d41c8a7b83c643c436c0ca2c94742d32e90774255219a38ea83", checked := Tryd.checked }
namespace Rows
def none {H : Type} : Left H := { results := [], args := [] }

/- WHAT THE LISTED PACKAGE-LEVEL VARIABLES READ AS WHEN THE CALL BEGINS. Each datum BY PROGRAM (the guide's laid-datum.mjs) off the statement by which the dump's own 'gosem.cut.vars' lays the variable. In a bare row this is a premise. The card (YtflbggehgjllcaaDoorCards.lean) ties it to the program's text. -/
def laid_nostro_deal_sizes {H : Type} : DataW H := .agg [.lit (.int .i64 4), .lit (.int .i64 1), .lit (.int .i64 1), .lit (.int .i64 1), .lit (.int .i64 1), .lit (.int .i64 8), .lit (.int .i64 8), .lit (.int .i64 1), .lit (.int .i64 1), .lit (.int .i64 2)]

/-- 'nostrolaw11.DealDoes': WHATEVER THE INPUT: true; the input reads as it did. -/
def dealDoesSpec : ChangeSpec := { name := "dealDoes", fn := fun _ => fun
  | [d1, d2, d3] => { results := [.lit (.bool true)], args := [d1, d2, d3] }
  | _ => none }
def dealDoesRow : OpenClaim := { program := "ytflbggehgjllcaadoor", sum := "1521d73703ff9d41c8a7b83c643c436c0ca2c94742d32e90774255219a38ea83", func := "nostro/nostrolaw11.DealDoes", spec := "dealDoes", unfollowed := true, recurses := true, named := ["nostro/deal.sizes"], apart := false, laid := [("nostro/deal.sizes", laid_nostro_deal_sizes)] }
def DealDoesSaid : Prop := dealDoesRow.holds Tryd.pinned (OpenSpec.ofChange dealDoesSpec)

/-- ITS FALSE NEIGHBOUR: 'it returns false'. Refute it at one input. -/
def dealDoesWrong : ChangeSpec := { name := "dealDoes", fn := fun _ => fun
  | [d1, d2, d3] => { results := [.lit (.bool false)], args := [d1, d2, d3] }
  | _ => none }
def DealDoesWrongFalsely : Prop := dealDoesRow.holds Tryd.pinned (OpenSpec.ofChange dealDoesWrong)

/-- 'nostrolaw11.DealReads': WHATEVER THE INPUT: true; the input reads as it did. -/
def dealReadsSpec : ChangeSpec := { name := "dealReads", fn := fun _ => fun
  | [d1, d2, d3, d4] => { results := [.lit (.bool true)], args := [d1, d2, d3, d4] }
  | _ => none }
def dealReadsRow : OpenClaim := { program := "ytflbggehgjllcaadoor", sum := "1521d73703ff9d41c8a7b83c643c436c0ca2c94742d32e90774255219a38ea83", func := "nostro/nostrolaw11.DealReads", spec := "dealReads", unfollowed := true, recurses := true, named := ["nostro/deal.sizes"], apart := false, laid := [("nostro/deal.sizes", laid_nostro_deal_sizes)] }
def DealReadsSaid : Prop := dealReadsRow.holds Tryd.pinned (OpenSpec.ofChange dealReadsSpec)

/-- ITS FALSE NEIGHBOUR: 'it returns false'. Refute it at one input. -/
def dealReadsWrong : ChangeSpec := { name := "dealReads", fn := fun _ => fun
  | [d1, d2, d3, d4] => { results := [.lit (.bool false)], args := [d1, d2, d3, d4] }
  | _ => none }
def DealReadsWrongFalsely : Prop := dealReadsRow.holds Tryd.pinned (OpenSpec.ofChange dealReadsWrong)

/-- 'nostrolaw11.DealTwo': WHATEVER THE INPUT: true; the input reads as it did. -/
def dealTwoSpec : ChangeSpec := { name := "dealTwo", fn := fun _ => fun
  | [d1, d2] => { results := [.lit (.bool true)], args := [d1, d2] }
  | _ => none }
def dealTwoRow : OpenClaim := { program := "ytflbggehgjllcaadoor", sum := "1521d73703ff9d41c8a7b83c643c436c0ca2c94742d32e90774255219a38ea83", func := "nostro/nostrolaw11.DealTwo", spec := "dealTwo", unfollowed := true, recurses := true, named := ["nostro/deal.sizes"], apart := false, laid := [("nostro/deal.sizes", laid_nostro_deal_sizes)] }
def DealTwoSaid : Prop := dealTwoRow.holds Tryd.pinned (OpenSpec.ofChange dealTwoSpec)

/-- ITS FALSE NEIGHBOUR: 'it returns false'. Refute it at one input. -/
def dealTwoWrong : ChangeSpec := { name := "dealTwo", fn := fun _ => fun
  | [d1, d2] => { results := [.lit (.bool false)], args := [d1, d2] }
  | _ => none }
def DealTwoWrongFalsely : Prop := dealTwoRow.holds Tryd.pinned (OpenSpec.ofChange dealTwoWrong)

/-- 'nostrolaw11.DealStays': WHATEVER THE INPUT: true; the input reads as it did. -/
def dealStaysSpec : ChangeSpec := { name := "dealStays", fn := fun _ => fun
  | [d1, d2, d3] => { results := [.lit (.bool true)], args := [d1, d2, d3] }
  | _ => none }
def dealStaysRow : OpenClaim := { program := "ytflbggehgjllcaadoor", sum := "1521d73703ff9d41c8a7b83c643c436c0ca2c94742d32e90774255219a38ea83", func := "nostro/nostrolaw11.DealStays", spec := "dealStays", unfollowed := true, recurses := true, named := ["nostro/deal.sizes"], apart := false, laid := [("nostro/deal.sizes", laid_nostro_deal_sizes)] }
def DealStaysSaid : Prop := dealStaysRow.holds Tryd.pinned (OpenSpec.ofChange dealStaysSpec)

/-- ITS FALSE NEIGHBOUR: 'it returns false'. Refute it at one input. -/
def dealStaysWrong : ChangeSpec := { name := "dealStays", fn := fun _ => fun
  | [d1, d2, d3] => { results := [.lit (.bool false)], args := [d1, d2, d3] }
  | _ => none }
def DealStaysWrongFalsely : Prop := dealStaysRow.holds Tryd.pinned (OpenSpec.ofChange dealStaysWrong)

/- THE SECOND FORM. 'bulk': how many values and letters a reading holds, each counted each time it is reached (what is shared counts as often as it is met; a slice's spare places count too). A statement '..UptoSaid' is the law's where the arguments, and the package variables that the reading takes, are together of bulk at most 1048576: NARROWER than '..Said'. Prove '..Said' where nothing that the law and all that it calls make is longer than what came in: it says more and counts as full. Else prove '..UptoSaid'. A law counts once. -/
mutual
def uptoBulk {H : Type} : DataW H → Nat
  | .lit (.string bytes) => bytes.length + 1
  | .lit _ => 1
  | .nil => 1
  | .ptr d => uptoBulk d + 1
  | .slice elems spare => uptoBulkAll elems + uptoBulkAll spare + 1
  | .agg parts => uptoBulkAll parts + 1
  | .iface _ d => uptoBulk d + 1
  | .map entries => uptoBulkEntries entries + 1
  | .held _ => 1
def uptoBulkAll {H : Type} : List (DataW H) → Nat
  | [] => 0
  | d :: r => uptoBulk d + uptoBulkAll r
def uptoBulkEntries {H : Type} : List (Lit × DataW H) → Nat
  | [] => 0
  | x :: r => uptoBulkEntry x + uptoBulkEntries r
def uptoBulkEntry {H : Type} : Lit × DataW H → Nat
  | (.string bytes, d) => bytes.length + uptoBulk d + 1
  | (_, d) => uptoBulk d + 1
 end
def uptoSmall : (H : Type) → List (DataW H) → Bool := fun _ ds => decide (uptoBulkAll ds ≤ 1048576)
def OpenSpec.upto (s : _root_.Go.ChangeSpec) : _root_.Go.OpenSpec := { _root_.Go.OpenSpec.ofChange s with cond := some uptoSmall }

/-- 'nostrolaw11.DealDoes', WHERE WHAT IT READS IS OF BULK AT MOST 1048576: true; the input reads as it did. -/
def dealDoesUptoRow : OpenClaim := { program := "ytflbggehgjllcaadoor", sum := "1521d73703ff9d41c8a7b83c643c436c0ca2c94742d32e90774255219a38ea83", func := "nostro/nostrolaw11.DealDoes", spec := "dealDoes", unfollowed := true, recurses := true, named := ["nostro/deal.sizes"], apart := false, laid := [("nostro/deal.sizes", laid_nostro_deal_sizes)], narrowed := true }
def DealDoesUptoSaid : Prop := dealDoesUptoRow.holds Tryd.pinned (OpenSpec.upto dealDoesSpec)

/-- 'nostrolaw11.DealReads', WHERE WHAT IT READS IS OF BULK AT MOST 1048576: true; the input reads as it did. -/
def dealReadsUptoRow : OpenClaim := { program := "ytflbggehgjllcaadoor", sum := "1521d73703ff9d41c8a7b83c643c436c0ca2c94742d32e90774255219a38ea83", func := "nostro/nostrolaw11.DealReads", spec := "dealReads", unfollowed := true, recurses := true, named := ["nostro/deal.sizes"], apart := false, laid := [("nostro/deal.sizes", laid_nostro_deal_sizes)], narrowed := true }
def DealReadsUptoSaid : Prop := dealReadsUptoRow.holds Tryd.pinned (OpenSpec.upto dealReadsSpec)

/-- 'nostrolaw11.DealTwo', WHERE WHAT IT READS IS OF BULK AT MOST 1048576: true; the input reads as it did. -/
def dealTwoUptoRow : OpenClaim := { program := "ytflbggehgjllcaadoor", sum := "1521d73703ff9d41c8a7b83c643c436c0ca2c94742d32e90774255219a38ea83", func := "nostro/nostrolaw11.DealTwo", spec := "dealTwo", unfollowed := true, recurses := true, named := ["nostro/deal.sizes"], apart := false, laid := [("nostro/deal.sizes", laid_nostro_deal_sizes)], narrowed := true }
def DealTwoUptoSaid : Prop := dealTwoUptoRow.holds Tryd.pinned (OpenSpec.upto dealTwoSpec)

/-- 'nostrolaw11.DealStays', WHERE WHAT IT READS IS OF BULK AT MOST 1048576: true; the input reads as it did. -/
def dealStaysUptoRow : OpenClaim := { program := "ytflbggehgjllcaadoor", sum := "1521d73703ff9d41c8a7b83c643c436c0ca2c94742d32e90774255219a38ea83", func := "nostro/nostrolaw11.DealStays", spec := "dealStays", unfollowed := true, recurses := true, named := ["nostro/deal.sizes"], apart := false, laid := [("nostro/deal.sizes", laid_nostro_deal_sizes)], narrowed := true }
def DealStaysUptoSaid : Prop := dealStaysUptoRow.holds Tryd.pinned (OpenSpec.upto dealStaysSpec)

end Rows
end Go.Proofs.YtflbggehgjllcaaDoor
