/- The contract of the reference's larger. -/
import Derived.Test.YtljclgphgojphaaR1
import Derived.Deep.RegionHeld3
namespace Go.Proofs.Ytljclgphgojphaa
open Go.RowKit
set_option linter.unusedVariables false

/-- which is greater -/
def cmp3 (a b : Int) : Int := if b < a then 1 else if a < b then -1 else 0

/-- the cells of two Bigs, each in a block of its own -/
def TwoB (w : World) (A B : Nat) (na nb : Bool) (pa pb : Option Addr) (la lb ca cb : Nat) : Prop :=
  w.cell? ⟨A, 0, none⟩ = some (.bool na) ∧ w.cell? ⟨A, 1, none⟩ = some (.slice pa la ca) ∧ w.cell? ⟨B, 0, none⟩ = some (.bool nb) ∧ w.cell? ⟨B, 1, none⟩ = some (.slice pb lb cb)
theorem TwoB.kept {w w' : World} {A B n : Nat} {na nb : Bool} {pa pb : Option Addr} {la lb ca cb : Nat} (h : TwoB w A B na nb pa pb la lb ca cb) (hb : Below n w w') (hA : A < n) (hB : B < n) : TwoB w' A B na nb pa pb la lb ca cb :=
  ⟨(hb.cell (p := ⟨A, 0, none⟩) hA).trans h.1, (hb.cell (p := ⟨A, 1, none⟩) hA).trans h.2.1, (hb.cell (p := ⟨B, 0, none⟩) hB).trans h.2.2.1, (hb.cell (p := ⟨B, 1, none⟩) hB).trans h.2.2.2⟩

/-- behind a call's beginning: its two Bigs lie in the first two blocks of its own; what was there is as it was -/
structure Hold (w W : World) (na nb : Bool) (pa pb : Option Addr) (la lb ca cb : Nat) (da db : List Int) : Prop where
  two : TwoB W w.heap.size (w.heap.size + 1) na nb pa pb la lb ca cb
  size : w.heap.size + 1 < W.heap.size
  bel : Below w.heap.size w W
  ra : DRow w pa la da
  rb : DRow w pb lb db
section
variable {w W W' : World} {na nb : Bool} {pa pb : Option Addr} {la lb ca cb : Nat} {da db : List Int}
theorem Hold.a (h : Hold w W na nb pa pb la lb ca cb da db) : DRow W pa la da := h.ra.kept h.bel
theorem Hold.b (h : Hold w W na nb pa pb la lb ca cb da db) : DRow W pb lb db := h.rb.kept h.bel
theorem Hold.keptTo {n : Nat} (h : Hold w W na nb pa pb la lb ca cb da db) (hb : Below n W W') (hn : w.heap.size + 2 ≤ n) : Hold w W' na nb pa pb la lb ca cb da db :=
  ⟨h.two.kept hb (by omega) (by omega), Nat.lt_of_lt_of_le h.size hb.size, h.bel.trans (hb.mono (by omega)), h.ra, h.rb⟩
theorem Hold.kept (h : Hold w W na nb pa pb la lb ca cb da db) (hb : Below W.heap.size W W') : Hold w W' na nb pa pb la lb ca cb da db := h.keptTo hb h.size
theorem Hold.drew (h : Hold w W na nb pa pb la lb ca cb da db) : Hold w W.drew na nb pa pb la lb ca cb da db := ⟨h.two, h.size, h.bel.drew, h.ra, h.rb⟩
end
end Go.Proofs.Ytljclgphgojphaa
