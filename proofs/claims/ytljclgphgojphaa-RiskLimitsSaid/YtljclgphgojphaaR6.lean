/- The contract of the reference's Fit. -/
import Derived.Test.YtljclgphgojphaaR5
namespace Go.Proofs.Ytljclgphgojphaa
open Go.RowKit
set_option linter.unusedVariables false

/-- an exact number as an amount and an error's number -/
def fitRV (x : Int) : Int := if -9223372036854775808 ≤ x ∧ x ≤ 9223372036854775807 then x else 0
def fitRE (x : Int) : Int := if -9223372036854775808 ≤ x ∧ x ≤ 9223372036854775807 then 0 else 3

/-- behind a call's beginning: its one Big lies in the first block of its own -/
structure Hold1 (w W : World) (n : Bool) (p : Option Addr) (l c : Nat) : Prop where
  c0 : W.cell? ⟨w.heap.size, 0, none⟩ = some (.bool n)
  c1 : W.cell? ⟨w.heap.size, 1, none⟩ = some (.slice p l c)
  size : w.heap.size < W.heap.size
  bel : Below w.heap.size w W
theorem Hold1.kept {w W W' : World} {n : Bool} {p : Option Addr} {l c : Nat} (h : Hold1 w W n p l c) (hb : Below W.heap.size W W') : Hold1 w W' n p l c :=
  ⟨(hb.cell (p := ⟨w.heap.size, 0, none⟩) h.size).trans h.c0, (hb.cell (p := ⟨w.heap.size, 1, none⟩) h.size).trans h.c1, Nat.lt_of_lt_of_le h.size hb.size, h.bel.trans (hb.mono h.bel.size)⟩
theorem Hold1.drew {w W : World} {n : Bool} {p : Option Addr} {l c : Nat} (h : Hold1 w W n p l c) : Hold1 w W.drew n p l c := ⟨h.c0, h.c1, h.size, h.bel.drew⟩
theorem IsB.wide {w : World} {v : Value} {L L' : Nat} {N : Int} (h : IsB w v L N) (hL : L ≤ L') : IsB w v L' N := by
  obtain ⟨neg, p, len, cap, ds, h1, h2, h3, h4, h5, h6⟩ := h
  exact ⟨neg, p, len, cap, ds, h1, h2, h3, h4, Nat.le_trans h5 hL, h6⟩

/-- a number, its upper digits told -/
theorem upper_next {f : Nat → Int} {k : Nat} {V h : Int} (e : V = dv f (k + 1) + h * pw (k + 1)) : V = dv f k + (10000 * h + f k) * pw k := by
  rw [e, dv, pw_succ, Int.add_mul]
  rw [show h * (10000 * pw k) = 10000 * h * pw k from by rw [Int.mul_left_comm, Int.mul_assoc]]
  omega
theorem upper_le {f : Nat → Int} (hf : Digs f) {k : Nat} {V h : Int} (e : V = dv f k + h * pw k) (h0 : 0 ≤ h) : h ≤ V := by
  have a := (dv_bd hf k).1
  have b : h * 1 ≤ h * pw k := Int.mul_le_mul_of_nonneg_left (pw_pos k) h0
  omega

end Go.Proofs.Ytljclgphgojphaa
