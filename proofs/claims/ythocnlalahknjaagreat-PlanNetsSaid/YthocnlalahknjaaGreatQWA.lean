/- Parts of PlanWhole's code. -/
import Derived.Test.YthocnlalahknjaaGreatQVB
import Derived.Test.YthocnlalahknjaaGreatQPT
import Derived.Deep.CutBlock
namespace Go.Proofs.YthocnlalahknjaaGreat.Dd
open Go.RowKit
set_option linter.unusedVariables false
/-- a part of a function's code -/
def cpath : List Nat → Code → Code
  | [], c => c
  | 0 :: r, .seq a b => cpath r a
  | 1 :: r, .seq a b => cpath r b
  | 2 :: r, .block _ c => cpath r c
  | 3 :: r, .loop c => cpath r c
  | _ :: _, c => c
def cbody : Option Code → Code
  | some c => c
  | none => .skip
noncomputable def cw0 : Code := cpath [1, 1, 1, 1, 1, 1, 0, 1] (cbody Tryz.f6.body)
noncomputable def cw2 : Code := cpath [1, 1, 1, 1, 1, 1, 0, 1, 2, 3, 1, 1, 0, 2, 1, 1, 0, 1] (cbody Tryz.f6.body)
noncomputable def cw4 : Code := cpath [1, 1, 1, 1, 1, 1, 0, 1, 2, 3, 1, 1, 0, 2, 1, 1, 0, 1, 2, 3, 1, 1, 0, 2, 1, 1, 0, 1] (cbody Tryz.f6.body)
noncomputable def cw6 : Code := cpath [1, 1, 1, 1, 1, 1, 1, 0, 1] (cbody Tryz.f6.body)
noncomputable def cw8 : Code := cpath [1, 1, 1, 1, 1, 1, 1, 1, 1, 1, 1, 0, 1] (cbody Tryz.f6.body)
noncomputable def cw10 : Code := cpath [1, 1, 1, 1, 1, 1, 1, 1, 1, 1, 1, 1, 0, 1] (cbody Tryz.f6.body)
end Go.Proofs.YthocnlalahknjaaGreat.Dd
