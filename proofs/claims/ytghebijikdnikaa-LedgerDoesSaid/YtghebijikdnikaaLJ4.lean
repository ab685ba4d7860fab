/- LedgerDoes over the landed ledger. -/
import Derived.Test.YtghebijikdnikaaLI6
import Derived.Test.YtghebijikdnikaaLJ3
namespace Go.Proofs.Ytghebijikdnikaa
open Go.RowKit
set_option linter.unusedVariables false

theorem ledgerDoes_said (nm nc : Int) (p : Option Addr) (len cap : Nat) (ops : List LOp) (w : World) (h0 : -9223372036854775808 ≤ nm ∧ nm ≤ 9223372036854775807) (h1 : -9223372036854775808 ≤ nc ∧ nc ≤ 9223372036854775807) (ho : OpsRow w p len ops) :
    Calls Try.prog 3 #[.int .i64 nm, .int .i64 nc, .slice p len cap] w fun e w' => e = .returned (.bool true) ∧ Below w.heap.size w w' :=
  ledgerDoes_any theLI nm nc p len cap ops w h1 ho
end Go.Proofs.Ytghebijikdnikaa
