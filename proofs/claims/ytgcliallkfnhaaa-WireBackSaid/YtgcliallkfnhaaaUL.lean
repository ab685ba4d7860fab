/- The laws over the program's own wire. -/
import Derived.Test.YtgcliallkfnhaaaUJ
import Derived.Test.YtgcliallkfnhaaaUH
import Derived.Test.YtgcliallkfnhaaaUK
namespace Go.Proofs.Ytgcliallkfnhaaa
open Go.RowKit
set_option linter.unusedVariables false

theorem awake_any (w : World) : Calls Try.prog 7 #[] w fun e w' => e = .returned (.bool true) ∧ Below w.heap.size w w' := awakeW_any theWI thePI w
theorem wireCutF (c : Cmd) (a : Int) (w : World) (hc : c.In) (ha : 0 ≤ a ∧ a ≤ 255) : Calls Try.prog 6 #[.agg c.arr, .int .u8 a] w fun e w' => e = .returned (.bool true) ∧ Below w.heap.size w w' := by
  obtain ⟨x, rfl⟩ : ∃ x : UInt8, a = (x.toNat : Int) := ⟨UInt8.ofNat a.toNat, by rw [UInt8.toNat_ofNat']; omega⟩
  exact wireCut_any theWI awake_any c hc x w
theorem wireCommandsF (c : Cmd) (s : ByteArray) (w : World) (hc : c.In) (hs : s.size ≤ 140737488351232) : Calls Try.prog 3 #[.agg c.arr, .string s] w fun e w' => e = .returned (.bool true) ∧ Below w.heap.size w w' :=
  wireCommands_any theWI awake_any c hc s hs w
theorem wireBackF (c : Cmd) (r : Rep) (p : Option Addr) (cap : Nat) (s : ByteArray) (w : World) (hc : c.In) (hr : (-9223372036854775808 ≤ r.Value ∧ r.Value ≤ 9223372036854775807) ∧ ZRow w p r.Ids.length r.Ids ∧ r.Ids.length ≤ 4611686018427387904) (hs : s.size ≤ 140737488351232) : Calls Try.prog 5 #[.agg c.arr, .agg (repArr r p cap), .string s] w fun e w' => e = .returned (.bool true) ∧ Below w.heap.size w w' :=
  wireBack_any theWI thePI c hc r p cap hr.1 hr.2.2 s hs w hr.2.1
theorem wireRepliesF (r : Rep) (p : Option Addr) (cap : Nat) (s : ByteArray) (w : World) (hr : (-9223372036854775808 ≤ r.Value ∧ r.Value ≤ 9223372036854775807) ∧ ZRow w p r.Ids.length r.Ids ∧ r.Ids.length ≤ 4611686018427387904) (hs : s.size ≤ 140737488351232) : Calls Try.prog 4 #[.agg (repArr r p cap), .string s] w fun e w' => e = .returned (.bool true) ∧ Below w.heap.size w w' :=
  wireReplies_any theWI thePI theQI r p cap hr.2.2 s hs w hr.2.1
end Go.Proofs.Ytgcliallkfnhaaa
