/-
  DERIVED. GIVEN WITH THE SEED: THE CARDS: each row of YtflbggehgjllcaaDoorRows.lean that lists a variable, with what it lists TIED to the program's text (the seventh form; the later family's looks); each row that meets fmt, with fmt's text TOLD by the authors' own Lean function (tested against real Go, not proved from fmt's source: count such statements apart). THE CARD IS WHAT COUNTS. Prove the row's statement (the work); the ties are given (YtflbggehgjllcaaDoorTie.lean); close each card by the builder's one call (the guide's Derived/Test/ToyasCard.lean, 'card_holds'). Laid BY PROGRAM, IN A SANDBOX (cutbox-door.mjs). By AI agents, Wed Nov 11 2026. No macro, syntax, notation, axiom, sorry.
-/
import Derived.Test.YtflbggehgjllcaaDoorRows
import GoSem.ClaimSeven
namespace Go.Proofs.YtflbggehgjllcaaDoor
namespace Rows

/-- THE TIED CARD OF 'nostrolaw11.DealDoes'. -/
def dealDoesCard : Claim7 := { stood := { row := dealDoesRow, standIns := [], harness := (true, "e6628e08ddff7f784a5c8efeb413d9ac7ee9f2d732c2d475712812a9befc5416"), looks := false }, kinds := [], alts := [], laidByText := true, laidKinds := [.data], laidTests := true, laidLooks := .later }
def DealDoesCardSaid : Prop := Claim7.holds Tryd.pinned (.plain (OpenSpec.ofChange dealDoesSpec)) dealDoesCard

/-- THE TIED CARD OF 'nostrolaw11.DealReads'. -/
def dealReadsCard : Claim7 := { stood := { row := dealReadsRow, standIns := [], harness := (true, "e6628e08ddff7f784a5c8efeb413d9ac7ee9f2d732c2d475712812a9befc5416"), looks := false }, kinds := [], alts := [], laidByText := true, laidKinds := [.data], laidTests := true, laidLooks := .later }
def DealReadsCardSaid : Prop := Claim7.holds Tryd.pinned (.plain (OpenSpec.ofChange dealReadsSpec)) dealReadsCard

/-- THE TIED CARD OF 'nostrolaw11.DealTwo'. -/
def dealTwoCard : Claim7 := { stood := { row := dealTwoRow, standIns := [], harness := (true, "e6628e08ddff7f784a5c8efeb413d9ac7ee9f2d732c2d475712812a9befc5416"), looks := false }, kinds := [], alts := [], laidByText := true, laidKinds := [.data], laidTests := true, laidLooks := .later }
def DealTwoCardSaid : Prop := Claim7.holds Tryd.pinned (.plain (OpenSpec.ofChange dealTwoSpec)) dealTwoCard

/-- THE TIED CARD OF 'nostrolaw11.DealStays'. -/
def dealStaysCard : Claim7 := { stood := { row := dealStaysRow, standIns := [], harness := (true, "e6628e08ddff7f784a5c8efeb413d9ac7ee9f2d732c2d475712812a9befc5416"), looks := false }, kinds := [], alts := [], laidByText := true, laidKinds := [.data], laidTests := true, laidLooks := .later }
def DealStaysCardSaid : Prop := Claim7.holds Tryd.pinned (.plain (OpenSpec.ofChange dealStaysSpec)) dealStaysCard

/-- THE SECOND FORM's CARD OF 'nostrolaw11.DealDoes'. -/
def dealDoesUptoCard : Claim7 := { stood := { row := dealDoesUptoRow, standIns := [], harness := (true, "e6628e08ddff7f784a5c8efeb413d9ac7ee9f2d732c2d475712812a9befc5416"), looks := false }, kinds := [], alts := [], laidByText := true, laidKinds := [.data], laidTests := true, laidLooks := .later }
def DealDoesUptoCardSaid : Prop := Claim7.holds Tryd.pinned (.plain (OpenSpec.upto dealDoesSpec)) dealDoesUptoCard

/-- THE SECOND FORM's CARD OF 'nostrolaw11.DealReads'. -/
def dealReadsUptoCard : Claim7 := { stood := { row := dealReadsUptoRow, standIns := [], harness := (true, "e6628e08ddff7f784a5c8efeb413d9ac7ee9f2d732c2d475712812a9befc5416"), looks := false }, kinds := [], alts := [], laidByText := true, laidKinds := [.data], laidTests := true, laidLooks := .later }
def DealReadsUptoCardSaid : Prop := Claim7.holds Tryd.pinned (.plain (OpenSpec.upto dealReadsSpec)) dealReadsUptoCard

/-- THE SECOND FORM's CARD OF 'nostrolaw11.DealTwo'. -/
def dealTwoUptoCard : Claim7 := { stood := { row := dealTwoUptoRow, standIns := [], harness := (true, "e6628e08ddff7f784a5c8efeb413d9ac7ee9f2d732c2d475712812a9befc5416"), looks := false }, kinds := [], alts := [], laidByText := true, laidKinds := [.data], laidTests := true, laidLooks := .later }
def DealTwoUptoCardSaid : Prop := Claim7.holds Tryd.pinned (.plain (OpenSpec.upto dealTwoSpec)) dealTwoUptoCard

/-- THE SECOND FORM's CARD OF 'nostrolaw11.DealStays'. -/
def dealStaysUptoCard : Claim7 := { stood := { row := dealStaysUptoRow, standIns := [], harness := (true, "e6628e08ddff7f784a5c8efeb413d9ac7ee9f2d732c2d475712812a9befc5416"), looks := false }, kinds := [], alts := [], laidByText := true, laidKinds := [.data], laidTests := true, laidLooks := .later }
def DealStaysUptoCardSaid : Prop := Claim7.holds Tryd.pinned (.plain (OpenSpec.upto dealStaysSpec)) dealStaysUptoCard
end Rows
end Go.Proofs.YtflbggehgjllcaaDoor
