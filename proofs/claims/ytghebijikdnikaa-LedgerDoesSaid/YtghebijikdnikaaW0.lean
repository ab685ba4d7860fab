/- Commands and replies as bytes, plainly: laid, taken, there and back. No Go text. -/
import Derived.Lib.Hide
namespace Go.Proofs.Ytghebijikdnikaa
set_option linter.unusedVariables false

/-- k bytes of a number, the highest first -/
def bes : Nat → Nat → List UInt8
  | 0, _ => []
  | k + 1, n => UInt8.ofNat (n / 256 ^ k % 256) :: bes k n
/-- what bytes tell -/
def vls (l : List UInt8) : Nat := l.foldl (fun n b => n * 256 + b.toNat) 0
theorem bes_length : ∀ k n, (bes k n).length = k
  | 0, _ => rfl
  | k + 1, n => by rw [bes, List.length_cons, bes_length k n]
theorem vls_from (l : List UInt8) : ∀ a, l.foldl (fun n b => n * 256 + b.toNat) a = a * 256 ^ l.length + vls l := by
  unfold vls
  induction l with
  | nil => intro a; simp
  | cons b l ih =>
    intro a
    rw [List.foldl_cons, ih, List.foldl_cons, ih (0 * 256 + b.toNat), List.length_cons, Nat.pow_succ]
    rw [Nat.add_mul, Nat.zero_mul, Nat.zero_add, Nat.mul_assoc, Nat.mul_comm 256 (256 ^ l.length), Nat.add_assoc]
theorem vls_cons (b : UInt8) (l : List UInt8) : vls (b :: l) = b.toNat * 256 ^ l.length + vls l := by
  show List.foldl _ (0 * 256 + b.toNat) l = _
  rw [vls_from, Nat.zero_mul, Nat.zero_add]
theorem vls_snoc (l : List UInt8) (b : UInt8) : vls (l ++ [b]) = vls l * 256 + b.toNat := by
  unfold vls
  rw [List.foldl_append]
  rfl
theorem vls_lt : ∀ l : List UInt8, vls l < 256 ^ l.length
  | [] => by decide
  | b :: l => by
    rw [vls_cons, List.length_cons, Nat.pow_succ]
    have h1 := vls_lt l
    have h2 : b.toNat ≤ 255 := by have := b.toNat_lt; omega
    have h3 : b.toNat * 256 ^ l.length ≤ 255 * 256 ^ l.length := Nat.mul_le_mul_right _ h2
    omega
theorem vls_bes : ∀ k n, vls (bes k n) = n % 256 ^ k
  | 0, n => by rw [Nat.pow_zero, Nat.mod_one]; rfl
  | k + 1, n => by
    rw [bes, vls_cons, bes_length, vls_bes k n, UInt8.toNat_ofNat', Nat.mod_eq_of_lt (by omega : n / 256 ^ k % 256 < 2 ^ 8), Nat.pow_succ, Nat.mod_mul]
    rw [Nat.mul_comm (256 ^ k), Nat.add_comm]
theorem bes_add (k n m : Nat) : bes k (n + m * 256 ^ k) = bes k n := by
  induction k generalizing m with
  | zero => rfl
  | succ k ih =>
    have e : n + m * 256 ^ (k + 1) = n + (m * 256) * 256 ^ k := by rw [Nat.pow_succ, Nat.mul_comm (256 ^ k) 256, Nat.mul_assoc]
    rw [bes, bes, e, ih, Nat.add_mul_div_right _ _ (Nat.pow_pos (by decide)), Nat.add_mul_mod_self_right]
theorem bes_vls : ∀ l : List UInt8, bes l.length (vls l) = l
  | [] => rfl
  | b :: l => by
    rw [List.length_cons, bes, vls_cons]
    have h1 := vls_lt l
    have hp : 0 < 256 ^ l.length := Nat.pow_pos (by decide)
    have e1 : (b.toNat * 256 ^ l.length + vls l) / 256 ^ l.length = b.toNat := by
      rw [Nat.add_comm, Nat.add_mul_div_right _ _ hp, Nat.div_eq_of_lt h1, Nat.zero_add]
    have e2 : bes l.length (b.toNat * 256 ^ l.length + vls l) = l := by
      rw [Nat.add_comm, bes_add, bes_vls l]
    rw [e1, e2, Nat.mod_eq_of_lt b.toNat_lt, UInt8.ofNat_toNat]

/-- a number of 64 bits, with its sign, as one without; and back -/
def toU (x : Int) : Nat := (x % 18446744073709551616).toNat
def toI (n : Nat) : Int := if n < 9223372036854775808 then (n : Int) else (n : Int) - 18446744073709551616
theorem toU_lt (x : Int) : toU x < 18446744073709551616 := by unfold toU; omega
theorem toI_toU (x : Int) (h : -9223372036854775808 ≤ x ∧ x ≤ 9223372036854775807) : toI (toU x) = x := by
  unfold toI toU
  split <;> omega
theorem toU_toI (n : Nat) (h : n < 18446744073709551616) : toU (toI n) = n := by
  unfold toI toU
  split <;> omega
theorem toI_bnd (n : Nat) (h : n < 18446744073709551616) : -9223372036854775808 ≤ toI n ∧ toI n ≤ 9223372036854775807 := by unfold toI; split <;> omega
theorem toU_nat (n : Nat) (h : n < 18446744073709551616) : toU (n : Int) = n := by unfold toU; omega

/-- a command -/
structure Cmd where
  Kind : Int
  Member : Int
  Id : Int
  Other : Int
  Cur : Int
  Cur2 : Int
  Amount : Int
  Amount2 : Int
/-- its numbers, in order -/
def Cmd.num (c : Cmd) : Nat → Int
  | 0 => c.Member
  | 1 => c.Id
  | 2 => c.Other
  | 3 => c.Cur
  | 4 => c.Cur2
  | 5 => c.Amount
  | _ => c.Amount2
theorem Cmd.ext {c d : Cmd} (h : c.Kind = d.Kind) (hn : ∀ i, i < 7 → c.num i = d.num i) : c = d := by
  have h0 := hn 0 (by omega)
  have h1 := hn 1 (by omega)
  have h2 := hn 2 (by omega)
  have h3 := hn 3 (by omega)
  have h4 := hn 4 (by omega)
  have h5 := hn 5 (by omega)
  have h6 := hn 6 (by omega)
  cases c; cases d
  simp only [Cmd.num] at *
  subst h; subst h0; subst h1; subst h2; subst h3; subst h4; subst h5; subst h6
  rfl
/-- within 64 bits -/
structure Cmd.In (c : Cmd) : Prop where
  kind : -9223372036854775808 ≤ c.Kind ∧ c.Kind ≤ 9223372036854775807
  num : ∀ i, -9223372036854775808 ≤ c.num i ∧ c.num i ≤ 9223372036854775807
/-- by how many bytes each is laid -/
def wid : Nat → Nat
  | 0 => 1
  | 1 => 4
  | 2 => 1
  | 3 => 1
  | 4 => 1
  | _ => 8
/-- what a kind uses, as 0 and 1; none: there is no such kind -/
def usesL (k : Int) : List UInt8 :=
  if k = 1 then [49, 49, 49, 49, 49, 49, 49]
  else if k = 2 then [49, 49, 48, 48, 48, 48, 48]
  else if k = 3 then [49, 48, 48, 49, 48, 49, 48]
  else if k = 4 ∨ k = 8 then [48, 49, 48, 48, 48, 48, 48]
  else if k = 5 ∨ k = 6 then [48, 48, 48, 49, 48, 49, 48]
  else if k = 7 then [49, 48, 48, 48, 48, 48, 48]
  else if k = 9 then [49, 48, 48, 49, 48, 48, 48]
  else []
/-- does a kind use the number i? -/
def hasN (k : Int) (i : Nat) : Bool := (usesL k).getD i 0 == 49
def known (k : Int) : Bool := decide (1 ≤ k) && decide (k ≤ 9)
theorem uses_known (k : Int) : usesL k = [] ↔ known k = false := by
  unfold usesL known
  constructor
  · intro h
    by_cases h1 : 1 ≤ k ∧ k ≤ 9
    · exfalso
      have : k = 1 ∨ k = 2 ∨ k = 3 ∨ k = 4 ∨ k = 5 ∨ k = 6 ∨ k = 7 ∨ k = 8 ∨ k = 9 := by omega
      rcases this with rfl | rfl | rfl | rfl | rfl | rfl | rfl | rfl | rfl <;> simp at h
    · simp; omega
  · intro h
    simp at h
    rw [if_neg (by omega), if_neg (by omega), if_neg (by omega), if_neg (by omega), if_neg (by omega), if_neg (by omega), if_neg (by omega)]
theorem uses_all {k : Int} (h : known k = true) {P : Int → Prop} (h1 : P 1) (h2 : P 2) (h3 : P 3) (h4 : P 4) (h5 : P 5) (h6 : P 6) (h7 : P 7) (h8 : P 8) (h9 : P 9) : P k := by
  unfold known at h
  simp at h
  have : k = 1 ∨ k = 2 ∨ k = 3 ∨ k = 4 ∨ k = 5 ∨ k = 6 ∨ k = 7 ∨ k = 8 ∨ k = 9 := by omega
  rcases this with rfl | rfl | rfl | rfl | rfl | rfl | rfl | rfl | rfl <;> assumption
theorem uses_length {k : Int} (h : known k = true) : (usesL k).length = 7 := uses_all (P := fun k => (usesL k).length = 7) h rfl rfl rfl rfl rfl rfl rfl rfl rfl
/-- each is 0 or 1 -/
theorem uses_two {k : Int} (h : known k = true) : ∀ i, i < 7 → (usesL k).getD i 0 = 49 ∨ (usesL k).getD i 0 = 48 := by
  refine uses_all (P := fun k => ∀ i, i < 7 → (usesL k).getD i 0 = 49 ∨ (usesL k).getD i 0 = 48) h ?_ ?_ ?_ ?_ ?_ ?_ ?_ ?_ ?_ <;> decide
/-- may number i be? -/
def mayN (c : Cmd) (i : Nat) : Bool :=
  (hasN c.Kind i || c.num i == 0) && (if wid i = 1 then decide (0 ≤ c.num i ∧ c.num i ≤ 255) else if wid i = 4 then decide (0 ≤ c.num i ∧ c.num i ≤ 2147483647) else true)
/-- may a command be? -/
def mayC (c : Cmd) : Bool := known c.Kind && (List.range 7).all (mayN c)
theorem mayC_iff (c : Cmd) : mayC c = true ↔ known c.Kind = true ∧ ∀ i, i < 7 → mayN c i = true := by
  unfold mayC
  rw [Bool.and_eq_true, List.all_eq_true]
  simp only [List.mem_range]
/-- what is laid of number i -/
def piece (c : Cmd) (i : Nat) : List UInt8 := if hasN c.Kind i then bes (wid i) (toU (c.num i)) else []
/-- of the first n numbers -/
def pieces (c : Cmd) : Nat → List UInt8
  | 0 => []
  | n + 1 => pieces c n ++ piece c n
/-- a command's bytes -/
def putC (c : Cmd) : List UInt8 := UInt8.ofNat (toU c.Kind % 256) :: pieces c 7
/-- where number i begins -/
def pos (k : Int) : Nat → Nat
  | 0 => 1
  | n + 1 => pos k n + (if hasN k n then wid n else 0)
theorem pieces_length (c : Cmd) : ∀ n, (pieces c n).length + 1 = pos c.Kind n
  | 0 => rfl
  | n + 1 => by
    rw [pieces, pos, List.length_append, ← pieces_length c n]
    unfold piece
    split
    · rw [bes_length]; omega
    · simp
theorem put_length (c : Cmd) : (putC c).length = pos c.Kind 7 := by
  rw [putC, List.length_cons, pieces_length]
theorem pos_mono (k : Int) (i : Nat) : ∀ n, pos k i ≤ pos k (i + n)
  | 0 => Nat.le_refl _
  | n + 1 => Nat.le_trans (pos_mono k i n) (by rw [← Nat.add_assoc, pos]; omega)
theorem pos_le (k : Int) {i n : Nat} (h : i ≤ n) : pos k i ≤ pos k n := by
  have := pos_mono k i (n - i)
  rwa [show i + (n - i) = n by omega] at this
/-- number i of bytes -/
def valU (k : Int) (s : List UInt8) (i : Nat) : Nat := if hasN k i then vls ((s.drop (pos k i)).take (wid i)) else 0
/-- the command that bytes tell, whether or not it may be -/
def told (s : List UInt8) : Cmd :=
  let k : Int := (s.headD 0).toNat
  ⟨k, toI (valU k s 0), toI (valU k s 1), toI (valU k s 2), toI (valU k s 3), toI (valU k s 4), toI (valU k s 5), toI (valU k s 6)⟩
theorem told_num (s : List UInt8) : ∀ i, i < 7 → (told s).num i = toI (valU (told s).Kind s i)
  | 0, _ => rfl
  | 1, _ => rfl
  | 2, _ => rfl
  | 3, _ => rfl
  | 4, _ => rfl
  | 5, _ => rfl
  | 6, _ => rfl
  | n + 7, h => by omega
/-- the command of bytes -/
def takeC (s : List UInt8) : Option Cmd := if s ≠ [] ∧ s.length = pos (told s).Kind 7 ∧ mayC (told s) = true then some (told s) else none
theorem wid_le (i : Nat) : wid i ≤ 8 := by unfold wid; split <;> omega
theorem valU_lt (k : Int) (s : List UInt8) (i : Nat) : valU k s i < 18446744073709551616 := by
  unfold valU
  split
  · have h1 := vls_lt ((s.drop (pos k i)).take (wid i))
    have h2 : ((s.drop (pos k i)).take (wid i)).length ≤ 8 := by rw [List.length_take]; have := wid_le i; omega
    have h3 : 256 ^ ((s.drop (pos k i)).take (wid i)).length ≤ 256 ^ 8 := Nat.pow_le_pow_right (by decide) h2
    have h4 : (256 : Nat) ^ 8 = 18446744073709551616 := by decide
    omega
  · omega
theorem told_in (s : List UInt8) : (told s).In := by
  refine ⟨?_, fun i => ?_⟩
  · show -9223372036854775808 ≤ (((s.headD 0).toNat : Nat) : Int) ∧ (((s.headD 0).toNat : Nat) : Int) ≤ 9223372036854775807
    have := (s.headD 0).toNat_lt
    omega
  · by_cases h : i < 7
    · rw [told_num s i h]
      exact toI_bnd _ (valU_lt _ _ _)
    · have e : (told s).num i = (told s).num 6 := by
        match i, h with
        | 0, h | 1, h | 2, h | 3, h | 4, h | 5, h => exact absurd (by omega) h
        | 6, h => exact absurd (by omega) h
        | n + 7, _ => rfl
      rw [e, told_num s 6 (by omega)]
      exact toI_bnd _ (valU_lt _ _ _)
end Go.Proofs.Ytghebijikdnikaa
