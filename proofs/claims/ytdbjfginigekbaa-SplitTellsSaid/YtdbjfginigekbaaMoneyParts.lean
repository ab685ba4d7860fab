/- The walk of the law MoneyParts: it returns true for every three amounts, down and up. -/
import Derived.Test.YtdbjfginigekbaaV5
import Derived.Test.YtdbjfginigekbaaB2
namespace Go.Proofs.Ytdbjfginigekbaa
open Go.RowKit
set_option linter.unusedVariables false

/-- a quotient of exact numbers, down or up -/
theorem divB_any (v v' : Value) (L L' : Nat) (N N' : Int) (up : Bool) (w : World) (h : IsB w v L N) (h' : IsB w v' L' N') (hL : L ≤ 100) (hL' : L' ≤ 100) (hpos : 0 < N') :
    Calls Try.prog 25 #[v, v', .bool up] w (RetB w (L + 6) (divR N N' up)) := by
  obtain ⟨na, pa, la, ca, da, rfl, ha, _, _, hla, hN, _⟩ := h
  obtain ⟨nb, pb, lb, cb, db, rfl, hb, hlc, hpc, hlb, hN', hz, hz'⟩ := h'
  have hv := (val_bd hb.2.1).1
  cases nb
  · have hV : val db = N' := hN'
    refine (div_walk na up pa pb la lb ca cb da db (val da) N' w ha hb (by omega) (by omega) hlc hpc hz' rfl hV hpos).mono fun e w' hr => hr.more (by omega) ?_
    rw [hN]
  · exfalso
    unfold sgB at hN'
    simp at hN'
    omega

end Go.Proofs.Ytdbjfginigekbaa
