/- Call by call, the program's journal and the document's answer and keep the same: the law's walk over the program's own journal. -/
import Derived.Test.YtidofjjghbhaaaaJL5
import Derived.Test.YtidofjjghbhaaaaLA
namespace Go.Proofs.Ytidofjjghbhaaaa
open Go.RowKit
set_option linter.unusedVariables false
theorem journalDoes_any (room : Int) (f : Nat → ByteArray) (p : Option Addr) (len cap : Nat) (ops : Nat → JOp) (w : World) (hr0 : -9223372036854775808 ≤ room ∧ room ≤ 9223372036854775807) (hf : ∀ k, (f k).size ≤ 140737488351232) (hrow : JopRow w p len ops) :
    Calls Try.prog 3 #[.int .i64 room, .agg #[.string (f 0), .string (f 1), .string (f 2)], .slice p len cap] w fun e w' => e = .returned (.bool true) ∧ Below w.heap.size w w' :=
  jDoes_any theJI awake_any room f p len cap ops w hr0 hf hrow
end Go.Proofs.Ytidofjjghbhaaaa
