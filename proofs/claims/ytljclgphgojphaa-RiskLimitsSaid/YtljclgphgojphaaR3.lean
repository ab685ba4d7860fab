/- The contract of the reference's Add: where the signs are alike. -/
import Derived.Test.YtljclgphgojphaaR2
namespace Go.Proofs.Ytljclgphgojphaa
open Go.RowKit
set_option linter.unusedVariables false

/-- a sum, digit by digit, with a carry -/
structure AddInv (f g : Nat → Int) (i : Nat) (c : Int) (os : List Int) : Prop where
  len : os.length = i
  digs : Digs (dg os)
  c0 : 0 ≤ c
  c1 : c ≤ 1
  eq : val os + c * pw i = dv f i + dv g i
theorem AddInv.first (f g : Nat → Int) : AddInv f g 0 0 [] := ⟨rfl, digs_nil, by omega, by omega, by rw [val_nil]; simp [dv]⟩
theorem AddInv.next {f g : Nat → Int} {i : Nat} {c : Int} {os : List Int} (h : AddInv f g i c os) (hf : Digs f) (hg : Digs g) : AddInv f g (i + 1) ((c + f i + g i) / 10000) (os ++ [(c + f i + g i) % 10000]) := by
  have a := hf i
  have b := hg i
  have c0 := h.c0
  have c1 := h.c1
  refine ⟨by rw [List.length_append, h.len]; rfl, digs_snoc h.digs (by omega) (by omega), by omega, by omega, ?_⟩
  rw [val_snoc, h.len, dv, dv, pw_succ]
  have e := h.eq
  have e1 : (c + f i + g i) * pw i = c * pw i + f i * pw i + g i * pw i := by rw [Int.add_mul, Int.add_mul]
  have e2 : (c + f i + g i) * pw i = (c + f i + g i) % 10000 * pw i + (c + f i + g i) / 10000 * (10000 * pw i) := by
    rw [Int.mul_left_comm, ← Int.mul_assoc, ← Int.add_mul, Int.emod_add_mul_ediv]
  omega
theorem AddInv.last {da db : List Int} {M : Nat} {c : Int} {os : List Int} (h : AddInv (dg da) (dg db) (M + 1) c os) (ha : Digs (dg da)) (hb : Digs (dg db)) (la : da.length ≤ M) (lb : db.length ≤ M) : val os = val da + val db := by
  have e := h.eq
  rw [val_ext (by omega), val_ext (by omega), pw_succ] at e
  have a1 := (dv_bd ha M).2
  have b1 := (dv_bd hb M).2
  rw [val_ext la] at a1
  rw [val_ext lb] at b1
  have o := (val_bd h.digs).1
  have c0 := h.c0
  have c1 := h.c1
  have p := pw_pos M
  rcases (by omega : c = 0 ∨ c = 1) with hc | hc
  · rw [hc] at e; omega
  · rw [hc] at e; omega

theorem grown_of_below {W W' : World} (hb : Below W.heap.size W W') : W.grownBy W' none := ⟨hb.os, hb.tape, hb.output, hb.size, fun k hk _ => hb.block k hk⟩
end Go.Proofs.Ytljclgphgojphaa
