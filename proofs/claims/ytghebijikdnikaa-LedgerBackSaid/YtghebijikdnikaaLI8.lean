/- LedgerBack over the landed ledger. -/
import Derived.Test.YtghebijikdnikaaLI6
import Derived.Test.YtghebijikdnikaaLI7
namespace Go.Proofs.Ytghebijikdnikaa
open Go.RowKit
set_option linter.unusedVariables false

theorem ledgerBack_said (nm nc : Int) (p : Option Addr) (len cap : Nat) (ops : List LOp) (q : Option Addr) (len2 cap2 : Nat) (ps : List Pst) (x : LOp) (w : World) (h0 : -9223372036854775808 ≤ nm ∧ nm ≤ 9223372036854775807) (h1 : -9223372036854775808 ≤ nc ∧ nc ≤ 9223372036854775807) (ho : OpsRow w p len ops) (hm : PRow w q len2 ps) (hm2 : len2 ≤ 140737488351232) (hx : x.Ok w) :
    Calls Try.prog 5 #[.int .i64 nm, .int .i64 nc, .slice p len cap, .slice q len2 cap2, .agg x.arr] w fun e w' => e = .returned (.bool true) ∧ Below w.heap.size w w' :=
  ledgerBack_any theLI nm nc p len cap ops q len2 cap2 ps x w ho hm hm2 hx
end Go.Proofs.Ytghebijikdnikaa
