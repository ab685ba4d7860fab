/- What the reference's Div goes through: plain arithmetic, and what lies where. -/
import Derived.Test.YtbljdjgbjnhcgaaF1
import Derived.Test.YtbljdjgbjnhcgaaR7
import Derived.Test.YtbljdjgbjnhcgaaR10
import Derived.Deep.RegionLaw
import Derived.Deep.AppendSrc
namespace Go.Proofs.Ytbljdjgbjnhcgaa
open Go.RowKit
set_option linter.unusedVariables false

/-- a division, digit by digit from above: k digits are left -/
structure DivInv (f : Nat → Int) (V Vb : Int) (n k : Nat) (qs : List Int) (R : Int) : Prop where
  ex : ∃ H Q : Int, V = dv f k + H * pw k ∧ val qs = Q * pw k ∧ H = Q * Vb + R
  low : ∀ j, j < k → dg qs j = 0
  digs : Digs (dg qs)
  len : qs.length = n
  R0 : 0 ≤ R
  R1 : R < Vb
theorem DivInv.first (f : Nat → Int) (n : Nat) (Vb : Int) (hV : 0 < Vb) : DivInv f (dv f n) Vb n n (List.replicate n 0) 0 := by
  refine ⟨⟨0, 0, by simp, by rw [val_zero]; simp, by simp⟩, fun j _ => ?_, digs_zero n, List.length_replicate, by omega, hV⟩
  unfold dg
  rw [List.getD_eq_getElem?_getD, List.getElem?_replicate]
  split <;> rfl
theorem DivInv.skip {f : Nat → Int} {V Vb : Int} {n j : Nat} {qs : List Int} {R : Int} (h : DivInv f V Vb n (j + 1) qs R) (hf : Digs f) (hlt : 10000 * R + f j < Vb) : DivInv f V Vb n j qs (10000 * R + f j) := by
  obtain ⟨H, Q, h1, h2, h3⟩ := h.ex
  have hd := hf j
  have r0 := h.R0
  refine ⟨⟨10000 * H + f j, 10000 * Q, upper_next h1, ?_, ?_⟩, fun i hi => h.low i (by omega), h.digs, h.len, by omega, hlt⟩
  · rw [h2, pw_succ, Int.mul_left_comm, Int.mul_assoc]
  · rw [h3, Int.mul_add, Int.mul_assoc]; omega
theorem DivInv.digit {f : Nat → Int} {V Vb : Int} {n j : Nat} {qs : List Int} {R : Int} (h : DivInv f V Vb n (j + 1) qs R) (hf : Digs f) (hj : j < n) (d : Int) (h0 : 0 ≤ d) (hlo : d * Vb ≤ 10000 * R + f j) (hup : 10000 * R + f j < d * Vb + Vb) :
    DivInv f V Vb n j (qs.set j d) (10000 * R + f j - d * Vb) ∧ d ≤ 9999 := by
  obtain ⟨H, Q, h1, h2, h3⟩ := h.ex
  have hd := hf j
  have r0 := h.R0
  have r1 := h.R1
  have d9 : d ≤ 9999 := by
    apply Int.not_lt.1
    intro hgt
    have : 10000 * Vb ≤ d * Vb := Int.mul_le_mul_of_nonneg_right (by omega) (by omega)
    omega
  refine ⟨⟨⟨10000 * H + f j, 10000 * Q + d, upper_next h1, ?_, ?_⟩, fun i hi => ?_, digs_set h.digs h0 d9, by rw [List.length_set]; exact h.len, by omega, by omega⟩, d9⟩
  · rw [val_set (by rw [h.len]; exact hj), h.low j (by omega), h2, pw_succ, Int.add_mul, Int.mul_left_comm, Int.mul_assoc, Int.sub_zero]
  · rw [h3, Int.mul_add, Int.add_mul, Int.mul_assoc]; omega
  · rw [dg_set_ne (by omega)]; exact h.low i (by omega)
theorem DivInv.last {f : Nat → Int} {V Vb : Int} {n : Nat} {qs : List Int} {R : Int} (h : DivInv f V Vb n 0 qs R) : V = val qs * Vb + R := by
  obtain ⟨H, Q, h1, h2, h3⟩ := h.ex
  rw [h1, h2, h3]
  simp [dv, pw]

theorem div_ofR {N Y q r : Int} (hr : 0 ≤ r) (hr' : r < Y) (h : q * Y + r = N) : N / Y = q := by
  have hY : Y ≠ 0 := by omega
  rw [← h, Int.add_comm, Int.add_mul_ediv_right _ _ hY, Int.ediv_eq_zero_of_lt hr hr', Int.zero_add]
/-- the whole number about a quotient, down or up -/
def divR (N V : Int) (up : Bool) : Int := if up then -(-N / V) else N / V
theorem divR_of {na : Bool} {V Vb Q R : Int} (e : V = Q * Vb + R) (r0 : 0 ≤ R) (r1 : R < Vb) (up : Bool) :
    divR (sgB na V) Vb up = sgB na Q + (if 0 < R ∧ na = false ∧ up = true then 1 else if 0 < R ∧ na = true ∧ up = false then -1 else 0) := by
  have e1 : V / Vb = Q := div_ofR r0 r1 e.symm
  have e2 : 0 < R → -V / Vb = -Q - 1 := fun hr => div_ofR (r := Vb - R) (by omega) (by omega) (by rw [Int.sub_mul, Int.neg_mul, Int.one_mul]; omega)
  have e3 : R = 0 → -V / Vb = -Q := fun hr => div_ofR (r := 0) (by omega) (by omega) (by rw [Int.neg_mul]; omega)
  unfold divR sgB
  by_cases hr : 0 < R
  · cases na <;> cases up <;> simp [hr, e1, e2 hr] <;> omega
  · have hz : R = 0 := by omega
    cases na <;> cases up <;> simp [hz, e1, e3 hz]

theorem pw_len {ds : List Int} (hd : Digs (dg ds)) (hz : 0 < ds.length → dg ds (ds.length - 1) ≠ 0) {m : Nat} (h : val ds < pw m) : ds.length ≤ m := by
  apply Nat.le_of_not_lt
  intro hl
  exact hz (by omega) (dv_zero hd (m := m) (n := ds.length) h (ds.length - 1) (by omega) (by omega))
end Go.Proofs.Ytbljdjgbjnhcgaa
