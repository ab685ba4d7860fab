/- The library's sort of no entries. -/
import Derived.Test.YtflbggehgjllcaaDoorDL
import Derived.Shelf.SlSortCmp.NoneTotal
namespace Go.Proofs.YtflbggehgjllcaaDoor
theorem sortE_nil (w : World) (p : Option Addr) (cap : Nat) : Calls Tryd.prog 34 #[.slice p 0 cap, .func (.func 35) #[] #[]] w fun e w' => e = .returned (.tuple #[]) ∧ w' = w :=
  AnyF.slices_SortFunc_none Tryd.laysF34 p cap _ w
end Go.Proofs.YtflbggehgjllcaaDoor
