/- Commands and replies as bytes, plainly: laid, taken, there and back. No Go text. -/
import Derived.Lib.Hide
namespace Go.Proofs.YtflbggehgjllcaaDoor
set_option linter.unusedVariables false

/-- k bytes of a number, the highest first -/
def bes : Nat → Nat → List UInt8
  | 0, _ => []
  | k + 1, n => UInt8.ofNat (n / 256 ^ k % 256) :: bes k n
/-- what bytes tell -/
def vls (l : List UInt8) : Nat := l.foldl (fun n b => n * 256 + b.toNat) 0
theorem bes_length : ∀ k n, (bes k n).length = k
  | 0, _ => rfl
  | k + 1, n => by rw [bes, List.length_cons, bes_length k n]
theorem vls_from (l : List UInt8) : ∀ a, l.foldl (fun n b => n * 256 + b.toNat) a = a * 256 ^ l.length + vls l := by
  unfold vls
  induction l with
  | nil => intro a; simp
  | cons b l ih =>
    intro a
    rw [List.foldl_cons, ih, List.foldl_cons, ih (0 * 256 + b.toNat), List.length_cons, Nat.pow_succ]
    rw [Nat.add_mul, Nat.zero_mul, Nat.zero_add, Nat.mul_assoc, Nat.mul_comm 256 (256 ^ l.length), Nat.add_assoc]
theorem vls_cons (b : UInt8) (l : List UInt8) : vls (b :: l) = b.toNat * 256 ^ l.length + vls l := by
  show List.foldl _ (0 * 256 + b.toNat) l = _
  rw [vls_from, Nat.zero_mul, Nat.zero_add]
theorem vls_snoc (l : List UInt8) (b : UInt8) : vls (l ++ [b]) = vls l * 256 + b.toNat := by
  unfold vls
  rw [List.foldl_append]
  rfl
theorem vls_lt : ∀ l : List UInt8, vls l < 256 ^ l.length
  | [] => by decide
  | b :: l => by
    rw [vls_cons, List.length_cons, Nat.pow_succ]
    have h1 := vls_lt l
    have h2 : b.toNat ≤ 255 := by have := b.toNat_lt; omega
    have h3 : b.toNat * 256 ^ l.length ≤ 255 * 256 ^ l.length := Nat.mul_le_mul_right _ h2
    omega
theorem vls_bes : ∀ k n, vls (bes k n) = n % 256 ^ k
  | 0, n => by rw [Nat.pow_zero, Nat.mod_one]; rfl
  | k + 1, n => by
    rw [bes, vls_cons, bes_length, vls_bes k n, UInt8.toNat_ofNat', Nat.mod_eq_of_lt (by omega : n / 256 ^ k % 256 < 2 ^ 8), Nat.pow_succ, Nat.mod_mul]
    rw [Nat.mul_comm (256 ^ k), Nat.add_comm]
theorem bes_add (k n m : Nat) : bes k (n + m * 256 ^ k) = bes k n := by
  induction k generalizing m with
  | zero => rfl
  | succ k ih =>
    have e : n + m * 256 ^ (k + 1) = n + (m * 256) * 256 ^ k := by rw [Nat.pow_succ, Nat.mul_comm (256 ^ k) 256, Nat.mul_assoc]
    rw [bes, bes, e, ih, Nat.add_mul_div_right _ _ (Nat.pow_pos (by decide)), Nat.add_mul_mod_self_right]
theorem bes_vls : ∀ l : List UInt8, bes l.length (vls l) = l
  | [] => rfl
  | b :: l => by
    rw [List.length_cons, bes, vls_cons]
    have h1 := vls_lt l
    have hp : 0 < 256 ^ l.length := Nat.pow_pos (by decide)
    have e1 : (b.toNat * 256 ^ l.length + vls l) / 256 ^ l.length = b.toNat := by
      rw [Nat.add_comm, Nat.add_mul_div_right _ _ hp, Nat.div_eq_of_lt h1, Nat.zero_add]
    have e2 : bes l.length (b.toNat * 256 ^ l.length + vls l) = l := by
      rw [Nat.add_comm, bes_add, bes_vls l]
    rw [e1, e2, Nat.mod_eq_of_lt b.toNat_lt, UInt8.ofNat_toNat]

/-- a number of 64 bits, with its sign, as one without; and back -/
def toU (x : Int) : Nat := (x % 18446744073709551616).toNat
def toI (n : Nat) : Int := if n < 9223372036854775808 then (n : Int) else (n : Int) - 18446744073709551616
theorem toU_lt (x : Int) : toU x < 18446744073709551616 := by unfold toU; omega
theorem toI_toU (x : Int) (h : -9223372036854775808 ≤ x ∧ x ≤ 9223372036854775807) : toI (toU x) = x := by
  unfold toI toU
  split <;> omega
theorem toU_toI (n : Nat) (h : n < 18446744073709551616) : toU (toI n) = n := by
  unfold toI toU
  split <;> omega
theorem toI_bnd (n : Nat) (h : n < 18446744073709551616) : -9223372036854775808 ≤ toI n ∧ toI n ≤ 9223372036854775807 := by unfold toI; split <;> omega
theorem toU_nat (n : Nat) (h : n < 18446744073709551616) : toU (n : Int) = n := by unfold toU; omega

end Go.Proofs.YtflbggehgjllcaaDoor
