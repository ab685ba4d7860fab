/- The contract of the reference's Add: where the signs differ; and of all. -/
import Derived.Test.YtljclgphgojphaaR3
namespace Go.Proofs.Ytljclgphgojphaa
open Go.RowKit
set_option linter.unusedVariables false

/-- a difference, digit by digit, with what is borrowed -/
structure SubInv (f g : Nat → Int) (i : Nat) (c : Int) (os : List Int) : Prop where
  len : os.length = i
  digs : Digs (dg os)
  c0 : 0 ≤ c
  c1 : c ≤ 1
  eq : val os - c * pw i = dv f i - dv g i
theorem SubInv.first (f g : Nat → Int) : SubInv f g 0 0 [] := ⟨rfl, digs_nil, by omega, by omega, by rw [val_nil]; simp [dv]⟩
theorem SubInv.next {f g : Nat → Int} {i : Nat} {c : Int} {os : List Int} (h : SubInv f g i c os) (d c' : Int) (hd : f i - g i - c = d - 10000 * c') (d0 : 0 ≤ d) (d1 : d ≤ 9999) (c0 : 0 ≤ c') (c1 : c' ≤ 1) : SubInv f g (i + 1) c' (os ++ [d]) := by
  refine ⟨by rw [List.length_append, h.len]; rfl, digs_snoc h.digs d0 d1, c0, c1, ?_⟩
  rw [val_snoc, h.len, dv, dv, pw_succ]
  have e := h.eq
  have e1 : (f i - g i - c) * pw i = f i * pw i - g i * pw i - c * pw i := by rw [Int.sub_mul, Int.sub_mul]
  have e2 : (d - 10000 * c') * pw i = d * pw i - c' * (10000 * pw i) := by rw [Int.sub_mul, Int.mul_left_comm, Int.mul_assoc]
  rw [hd, e2] at e1
  omega
theorem SubInv.last {da db : List Int} {c : Int} {os : List Int} (h : SubInv (dg da) (dg db) da.length c os) (ha : Digs (dg da)) (hb : Digs (dg db)) (hle : val db ≤ val da) : val os = val da - val db := by
  have e := h.eq
  have a1 := (val_bd ha).2
  have hz := dv_zero hb (m := da.length) (n := db.length) (by show val db < _; omega)
  have hv : dv (dg db) da.length = val db := by
    rcases Nat.le_total da.length db.length with hl | hl
    · unfold val
      symm
      refine dv_ext hl (fun i hi => ?_)
      by_cases hi2 : i < db.length
      · exact hz i hi hi2
      · exact dg_out (by omega)
    · exact val_ext hl
  rw [hv] at e
  change val os - c * pw da.length = val da - val db at e
  have o := val_bd h.digs
  rw [h.len] at o
  have c0 := h.c0
  have c1 := h.c1
  rcases (by omega : c = 0 ∨ c = 1) with hc | hc
  · rw [hc] at e; omega
  · rw [hc] at e; omega

end Go.Proofs.Ytljclgphgojphaa
