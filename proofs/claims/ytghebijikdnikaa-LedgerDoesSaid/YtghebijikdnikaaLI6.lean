/- The landed program's ledger keeps the contracts.
  The laws over the landed ledger. -/
import Derived.Test.YtghebijikdnikaaLI1
import Derived.Test.YtghebijikdnikaaLI3
import Derived.Test.YtghebijikdnikaaLG10
namespace Go.Proofs.Ytghebijikdnikaa
open Go.RowKit
set_option linter.unusedVariables false

def theLI : LI where
  IsL := PL
  live := PL.live
  new := new_any
  inn := in_any
  out := out_any
  swap := swp_any
  post := post_any
  text := fun ⟨_, _, h⟩ hg => ptext_any _ h hg
  get := fun {P b l w} m c ⟨_, _, h⟩ => (get_any m c w h).mono (by rintro e w' ⟨rfl, rfl⟩; exact ⟨rfl, Below.refl _ _⟩)
  nos := fun {P b l w} c ⟨_, _, h⟩ => (nostro_any c w h).mono (by rintro e w' ⟨rfl, rfl⟩; exact ⟨rfl, Below.refl _ _⟩)
  size := fun {P b l w} ⟨_, _, h⟩ => (psize_any w h).mono (by rintro e w' ⟨rfl, n, rfl⟩; exact ⟨rfl, below_drewN (Below.refl _ _) n⟩)
  read := pread_any
end Go.Proofs.Ytghebijikdnikaa
namespace Go.Proofs.Ytghebijikdnikaa
open Go.RowKit
set_option linter.unusedVariables false

theorem ledgerSums_said (nm nc : Int) (p : Option Addr) (len cap : Nat) (ops : List LOp) (w : World) (h0 : -9223372036854775808 ≤ nm ∧ nm ≤ 9223372036854775807) (h1 : -9223372036854775808 ≤ nc ∧ nc ≤ 9223372036854775807) (ho : OpsRow w p len ops) :
    Calls Try.prog 4 #[.int .i64 nm, .int .i64 nc, .slice p len cap] w fun e w' => e = .returned (.bool true) ∧ Below w.heap.size w w' :=
  ledgerSums_any theLI nm nc p len cap ops w ho
theorem ledgerOn_said (nm nc : Int) (p : Option Addr) (len cap : Nat) (ops : List LOp) (q : Option Addr) (len2 cap2 : Nat) (more : List LOp) (w : World) (h0 : -9223372036854775808 ≤ nm ∧ nm ≤ 9223372036854775807) (h1 : -9223372036854775808 ≤ nc ∧ nc ≤ 9223372036854775807) (ho : OpsRow w p len ops) (hm : OpsRow w q len2 more) :
    Calls Try.prog 6 #[.int .i64 nm, .int .i64 nc, .slice p len cap, .slice q len2 cap2] w fun e w' => e = .returned (.bool true) ∧ Below w.heap.size w w' :=
  ledgerOn_any theLI (awakeL_any theLI) nm nc p q len cap len2 cap2 ops more w ho hm
end Go.Proofs.Ytghebijikdnikaa
