/- What a member would be worth behind postings, as numbers. -/
import Derived.Test.YtllhpdohahoelaaNP
namespace Go.Proofs.Ytllhpdohahoelaa
open Go.RowKit
set_option linter.unusedVariables false

def knownC (nc : Nat) (ps : List Pst) : Bool := ps.all fun q => decide (0 ≤ q.c ∧ q.c < nc)
/-- a member's postings, done to its balances -/
def goI (m : Int) : (Nat → Int) → List Pst → Option (Nat → Int)
  | b, [] => some b
  | b, q :: r => if q.m = m then (if In64 (b q.c.toNat + q.a) then goI m (upd b q.c.toNat (b q.c.toNat + q.a)) r else none) else goI m b r
def bothM (t : List Cur) (nc : Nat) (b : Nat → Int) : Int × Int × Int := if (netF t b nc 0 0).2 = 0 ∧ (shortF t b nc 0 0).2 = 0 then ((netF t b nc 0 0).1, (shortF t b nc 0 0).1, 0) else (0, 0, 3)
def ifM (t : List Cur) (nc : Nat) (b : Nat → Int) (m : Int) (ps : List Pst) : Int × Int × Int := if knownC nc ps then (match goI m b ps with | none => (0, 0, 3) | some d => bothM t nc d) else (0, 0, 1)
theorem goI_step {ps : List Pst} {k : Nat} {q : Pst} (hq : ps[k]? = some q) (m : Int) (d : Nat → Int) : goI m d (ps.drop k) = if q.m = m then (if In64 (d q.c.toNat + q.a) then goI m (upd d q.c.toNat (d q.c.toNat + q.a)) (ps.drop (k + 1)) else none) else goI m d (ps.drop (k + 1)) := by
  obtain ⟨hk, e⟩ := List.getElem?_eq_some_iff.1 hq
  rw [List.drop_eq_getElem_cons hk, e]
  rfl
def RetM (r : Int × Int × Int) (w : World) (e : Ending) (w' : World) : Prop := e = .returned (.tuple #[.int .i64 r.1, .int .i64 r.2.1, .int .i64 r.2.2]) ∧ Below w.heap.size w w'
theorem ifM_known {t : List Cur} {nc : Nat} {b d : Nat → Int} {m : Int} {ps : List Pst} (h : knownC nc ps = true) (hg : goI m b ps = some d) : ifM t nc b m ps = bothM t nc d := by unfold ifM; rw [if_pos h, hg]
theorem ifM_over {t : List Cur} {nc : Nat} {b : Nat → Int} {m : Int} {ps : List Pst} (h : knownC nc ps = true) (hg : goI m b ps = none) : ifM t nc b m ps = (0, 0, 3) := by unfold ifM; rw [if_pos h, hg]
theorem ifM_not {t : List Cur} {nc : Nat} {b : Nat → Int} {m : Int} {ps : List Pst} (h : knownC nc ps = false) : ifM t nc b m ps = (0, 0, 1) := by unfold ifM; rw [if_neg (by rw [h]; decide)]
theorem known_all {nc : Nat} {ps : List Pst} (h : knownC nc ps = true) : ∀ q ∈ ps, 0 ≤ q.c ∧ q.c < nc := fun q hq => by simpa using List.all_eq_true.1 h q hq
theorem known_yes {nc : Nat} {ps : List Pst} (h : ∀ q ∈ ps, 0 ≤ q.c ∧ q.c < nc) : knownC nc ps = true := List.all_eq_true.2 fun q hq => by simpa using h q hq
theorem known_no {nc : Nat} {ps : List Pst} {q : Pst} (hq : q ∈ ps) (h : ¬ (0 ≤ q.c ∧ q.c < nc)) : knownC nc ps = false := by
  cases e : knownC nc ps with
  | false => rfl
  | true => exact absurd (known_all e q hq) h
end Go.Proofs.Ytllhpdohahoelaa
