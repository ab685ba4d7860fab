/- The contracts of the reference's Total and Chain.
  The contract of the reference's Chain. -/
import Derived.Test.YtljclgphgojphaaR6
import Derived.Test.YtljclgphgojphaaB2
namespace Go.Proofs.Ytljclgphgojphaa
open Go.RowKit
set_option linter.unusedVariables false
theorem Seq64.at {w W : World} {p : Option Addr} {len : Nat} {zs : List Int} (h : Seq64 w p len zs) (hb : Below w.heap.size w W) {k : Nat} (hk : k < len) :
    ∃ b off, p = some ⟨b, off, none⟩ ∧ b < w.heap.size ∧ W.cell? ⟨b, off + k, none⟩ = some (.int .i64 (zs.getD k 0)) := by
  obtain ⟨_, _, _, h4⟩ := h
  obtain ⟨b, off, e, hlt, hc⟩ := h4.resolve_left (by omega)
  exact ⟨b, off, e, hlt, (hb.cell (p := ⟨b, off + k, none⟩) hlt).trans (hc k hk)⟩

end Go.Proofs.Ytljclgphgojphaa
namespace Go.Proofs.Ytljclgphgojphaa
open Go.RowKit
set_option linter.unusedVariables false
end Go.Proofs.Ytljclgphgojphaa
