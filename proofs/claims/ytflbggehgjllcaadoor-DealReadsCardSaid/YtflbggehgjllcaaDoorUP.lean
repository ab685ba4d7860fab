/- Parts of the reference's Read. -/
import Derived.Test.YtflbggehgjllcaaDoorUD
namespace Go.Proofs.YtflbggehgjllcaaDoor
open Go.RowKit
set_option linter.unusedVariables false
/-- a part of a function's code -/
def cpath : List Nat → Code → Code
  | [], c => c
  | 0 :: r, .seq a b => cpath r a
  | 1 :: r, .seq a b => cpath r b
  | 2 :: r, .block _ c => cpath r c
  | 3 :: r, .loop c => cpath r c
  | _ :: _, c => c
def cbody : Option Code → Code
  | some c => c
  | none => .skip
noncomputable def cread9 : Code := cpath [1, 1, 1, 0, 1, 2, 3, 1, 0, 2, 1, 1, 0] (cbody Tryd.f17.body)
noncomputable def cread12 : Code := cpath [1, 1, 1, 0, 1, 2, 3, 1, 0, 2, 1, 1, 1, 1, 0] (cbody Tryd.f17.body)
end Go.Proofs.YtflbggehgjllcaaDoor
