/- Plain arithmetic of the published check: half of a number, the step of a byte, the check of bytes; that it keeps sums of bits apart, and finds a byte that was turned. No Go text. -/
import Derived.Laws.BitsAllLaws
namespace Go.Proofs.Ytghebijikdnikaa

/-- half of c, down, its bits turned by the polynomial's if c was odd -/
def half1 (c : Nat) : Nat := if c % 2 = 1 then (c / 2) ^^^ 3988292384 else c / 2
def halves : Nat → Nat → Nat
  | 0, c => c
  | k + 1, c => halves k (half1 c)
/-- the step of one byte -/
def step (c b : Nat) : Nat := halves 8 (c ^^^ b)
def steps (c : Nat) (l : List UInt8) : Nat := l.foldl (fun c b => step c b.toNat) c
/-- the check of bytes -/
def crc (l : List UInt8) : Nat := 4294967295 ^^^ steps 4294967295 l

theorem xor_half (a b : Nat) : (a ^^^ b) / 2 = (a / 2) ^^^ (b / 2) := by
  have := Nat.shiftRight_xor_distrib (a := a) (b := b) (i := 1)
  simpa [Nat.shiftRight_succ] using this
theorem xor_odd (a b : Nat) : (a ^^^ b) % 2 = (a % 2 + b % 2) % 2 := by
  have h := Nat.testBit_xor a b 0
  simp only [Nat.testBit_zero] at h
  have ha := Nat.mod_two_eq_zero_or_one a
  have hb := Nat.mod_two_eq_zero_or_one b
  have hc := Nat.mod_two_eq_zero_or_one (a ^^^ b)
  rcases ha with ha | ha <;> rcases hb with hb | hb <;> rcases hc with hc | hc <;> simp [ha, hb, hc] at h ⊢

theorem half1_xor (a b : Nat) : half1 (a ^^^ b) = half1 a ^^^ half1 b := by
  unfold half1
  rw [xor_half, xor_odd]
  have ha := Nat.mod_two_eq_zero_or_one a
  have hb := Nat.mod_two_eq_zero_or_one b
  rcases ha with ha | ha <;> rcases hb with hb | hb <;> simp [ha, hb]
  · ac_rfl
  · ac_rfl
  · have : a / 2 ^^^ 3988292384 ^^^ (b / 2 ^^^ 3988292384) = (a / 2 ^^^ b / 2) ^^^ (3988292384 ^^^ 3988292384) := by ac_rfl
    rw [this, Nat.xor_self, Nat.xor_zero]

theorem halves_xor : ∀ (k a b : Nat), halves k (a ^^^ b) = halves k a ^^^ halves k b
  | 0, _, _ => rfl
  | k + 1, a, b => by simp only [halves]; rw [half1_xor, halves_xor k]

theorem half1_lt (c : Nat) (h : c < 4294967296) : half1 c < 4294967296 := by
  unfold half1
  split
  · exact Nat.xor_lt_two_pow (n := 32) (by omega) (by omega)
  · omega
theorem halves_lt : ∀ (k c : Nat), c < 4294967296 → halves k c < 4294967296
  | 0, _, h => h
  | k + 1, c, h => halves_lt k _ (half1_lt c h)
theorem step_lt (c b : Nat) (hc : c < 4294967296) (hb : b < 4294967296) : step c b < 4294967296 :=
  halves_lt 8 _ (Nat.xor_lt_two_pow (n := 32) (by omega) (by omega))
theorem steps_lt : ∀ (l : List UInt8) (c : Nat), c < 4294967296 → steps c l < 4294967296
  | [], _, h => h
  | b :: r, c, h => steps_lt r _ (step_lt c _ h (by have := b.toNat_lt; omega))
theorem crc_lt (l : List UInt8) : crc l < 4294967296 :=
  Nat.xor_lt_two_pow (n := 32) (by omega) (by have := steps_lt l 4294967295 (by omega); omega)

theorem half1_zero (c : Nat) (h : c < 4294967296) (h0 : half1 c = 0) : c = 0 := by
  unfold half1 at h0
  split at h0
  · have : c / 2 = 3988292384 := by
      have e : c / 2 ^^^ 3988292384 ^^^ 3988292384 = 3988292384 := by rw [h0, Nat.zero_xor]
      rwa [Nat.xor_assoc, Nat.xor_self, Nat.xor_zero] at e
    omega
  · omega
theorem halves_zero : ∀ (k c : Nat), c < 4294967296 → halves k c = 0 → c = 0
  | 0, _, _, h => h
  | k + 1, c, h, h0 => half1_zero c h (halves_zero k _ (half1_lt c h) h0)
theorem xor_eq_zero' {a b : Nat} (h : a ^^^ b = 0) : a = b := by
  have e : a ^^^ b ^^^ b = b := by rw [h, Nat.zero_xor]
  rwa [Nat.xor_assoc, Nat.xor_self, Nat.xor_zero] at e
theorem halves_inj (k a b : Nat) (ha : a < 4294967296) (hb : b < 4294967296) (h : halves k a = halves k b) : a = b := by
  apply xor_eq_zero'
  apply halves_zero k _ (Nat.xor_lt_two_pow (n := 32) (by omega) (by omega))
  rw [halves_xor, h, Nat.xor_self]
theorem step_inj (a b x : Nat) (ha : a < 4294967296) (hb : b < 4294967296) (hx : x < 4294967296) (h : step a x = step b x) : a = b := by
  have h1 := halves_inj 8 _ _ (Nat.xor_lt_two_pow (n := 32) (by omega) (by omega)) (Nat.xor_lt_two_pow (n := 32) (by omega) (by omega)) h
  apply xor_eq_zero'
  have e : a ^^^ x ^^^ (b ^^^ x) = (a ^^^ b) ^^^ (x ^^^ x) := by ac_rfl
  rw [h1, Nat.xor_self, Nat.xor_self, Nat.xor_zero] at e
  exact e.symm
theorem step_inj' (a x y : Nat) (ha : a < 4294967296) (hx : x < 4294967296) (hy : y < 4294967296) (h : step a x = step a y) : x = y := by
  have h1 := halves_inj 8 _ _ (Nat.xor_lt_two_pow (n := 32) (by omega) (by omega)) (Nat.xor_lt_two_pow (n := 32) (by omega) (by omega)) h
  apply xor_eq_zero'
  have e : a ^^^ x ^^^ (a ^^^ y) = (x ^^^ y) ^^^ (a ^^^ a) := by ac_rfl
  rw [h1, Nat.xor_self, Nat.xor_self, Nat.xor_zero] at e
  exact e.symm
theorem steps_inj : ∀ (l : List UInt8) (a b : Nat), a < 4294967296 → b < 4294967296 → steps a l = steps b l → a = b
  | [], _, _, _, _, h => h
  | x :: r, a, b, ha, hb, h => by
    have hx : x.toNat < 4294967296 := by have := x.toNat_lt; omega
    exact step_inj a b x.toNat ha hb hx (steps_inj r _ _ (step_lt _ _ ha hx) (step_lt _ _ hb hx) h)
theorem steps_app (c : Nat) (l r : List UInt8) : steps c (l ++ r) = steps (steps c l) r := by simp [steps, List.foldl_append]
theorem steps_snoc (c : Nat) (l : List UInt8) (x : UInt8) : steps c (l ++ [x]) = step (steps c l) x.toNat := by rw [steps_app]; rfl
/-- A BYTE THAT IS TURNED IS FOUND. -/
theorem crc_turned (l r : List UInt8) (x y : UInt8) (h : crc (l ++ x :: r) = crc (l ++ y :: r)) : x = y := by
  have h1 : steps 4294967295 (l ++ x :: r) = steps 4294967295 (l ++ y :: r) := by
    have e := congrArg (4294967295 ^^^ ·) h
    simp only [crc, ← Nat.xor_assoc, Nat.xor_self, Nat.zero_xor] at e
    exact e
  rw [steps_app, steps_app] at h1
  have hc := steps_lt l 4294967295 (by omega)
  have hx : x.toNat < 4294967296 := by have := x.toNat_lt; omega
  have hy : y.toNat < 4294967296 := by have := y.toNat_lt; omega
  have h2 := steps_inj r _ _ (step_lt _ _ hc hx) (step_lt _ _ hc hy) h1
  exact UInt8.toNat_inj.mp (step_inj' _ _ _ hc hx hy h2)

/-- three texts of one length, turned by one another -/
def xor3 : List UInt8 → List UInt8 → List UInt8 → List UInt8
  | a :: l, b :: m, c :: n => (a ^^^ b ^^^ c) :: xor3 l m n
  | _, _, _ => []
theorem step_xor3 (a b c x y z : Nat) : step (a ^^^ b ^^^ c) (x ^^^ y ^^^ z) = step a x ^^^ step b y ^^^ step c z := by
  unfold step
  have e : a ^^^ b ^^^ c ^^^ (x ^^^ y ^^^ z) = (a ^^^ x) ^^^ (b ^^^ y) ^^^ (c ^^^ z) := by ac_rfl
  rw [e, halves_xor, halves_xor]
theorem steps_xor3 : ∀ (l m n : List UInt8) (a b c : Nat), l.length = m.length → m.length = n.length → steps (a ^^^ b ^^^ c) (xor3 l m n) = steps a l ^^^ steps b m ^^^ steps c n
  | [], [], [], _, _, _, _, _ => rfl
  | x :: l, y :: m, z :: n, a, b, c, h1, h2 => by
    show steps (step (a ^^^ b ^^^ c) (x ^^^ y ^^^ z).toNat) (xor3 l m n) = steps (step a x.toNat) l ^^^ steps (step b y.toNat) m ^^^ steps (step c z.toNat) n
    rw [UInt8.toNat_xor, UInt8.toNat_xor, step_xor3]
    exact steps_xor3 l m n _ _ _ (by simpa using h1) (by simpa using h2)
theorem crc_xor3 (l m n : List UInt8) (h1 : l.length = m.length) (h2 : m.length = n.length) : crc (xor3 l m n) = crc l ^^^ crc m ^^^ crc n := by
  unfold crc
  have e : steps 4294967295 (xor3 l m n) = steps 4294967295 l ^^^ steps 4294967295 m ^^^ steps 4294967295 n := by
    have h := steps_xor3 l m n 4294967295 4294967295 4294967295 h1 h2
    rwa [Nat.xor_self, Nat.zero_xor] at h
  rw [e]
  generalize steps 4294967295 l = A
  generalize steps 4294967295 m = B
  generalize steps 4294967295 n = C
  have e2 : 4294967295 ^^^ A ^^^ (4294967295 ^^^ B) ^^^ (4294967295 ^^^ C) = 4294967295 ^^^ (A ^^^ B ^^^ C) ^^^ (4294967295 ^^^ 4294967295) := by ac_rfl
  rw [e2, Nat.xor_self, Nat.xor_zero]

/-- eight halves of a number without a last byte: that number without it -/
theorem half1_even (c : Nat) : half1 (2 * c) = c := by unfold half1; rw [if_neg (by omega)]; omega
theorem halves_byte (h : Nat) : halves 8 (256 * h) = h := by
  have e : 256 * h = 2 * (2 * (2 * (2 * (2 * (2 * (2 * (2 * h))))))) := by omega
  rw [e]
  simp only [halves, half1_even]
theorem split_byte (c : Nat) : c = (256 * (c / 256)) ^^^ (c % 256) := by
  have h := Nat.two_pow_add_eq_or_of_lt (i := 8) (b := c % 256) (by omega) (c / 256)
  have e : 2 ^ 8 * (c / 256) + c % 256 = c := by omega
  rw [e] at h
  apply Nat.eq_of_testBit_eq
  intro i
  have g := Nat.testBit_two_pow_mul (i := 8) (a := c / 256) (j := i)
  have k : i < 8 ∨ 8 ≤ i := by omega
  rw [Nat.testBit_xor]
  have g' : (256 * (c / 256)).testBit i = (decide (i ≥ 8) && (c / 256).testBit (i - 8)) := g
  rw [g']
  conv => lhs; rw [h, Nat.testBit_or]
  have g2 : (2 ^ 8 * (c / 256)).testBit i = (decide (i ≥ 8) && (c / 256).testBit (i - 8)) := g
  rw [g2]
  rcases k with k | k
  · simp [show ¬ 8 ≤ i by omega]
  · have hz : (c % 256).testBit i = false := Nat.testBit_lt_two_pow (by
      have : 2 ^ 8 ≤ 2 ^ i := Nat.pow_le_pow_right (by omega) k
      omega)
    rw [hz]; simp
/-- the step by a table of what single bytes change -/
theorem step_table (c b : Nat) : step c b = (c / 256) ^^^ halves 8 ((c % 256) ^^^ b) := by
  unfold step
  conv => lhs; rw [split_byte c, Nat.xor_assoc, halves_xor, halves_byte]
end Go.Proofs.Ytghebijikdnikaa
