/- Plain arithmetic of a long division by two digits of 32 bits: no Go text. -/
import Derived.Lib.BitFns
import Derived.Laws.BitsAllLaws
namespace Go.Proofs.YthocnlalahknjaaGreat

/-- what holds of a guess q of a digit, with what is left of the upper part -/
structure Guess (u y1 y0 d q r : Int) : Prop where
  eq : q * y1 + r = u
  r0 : 0 ≤ r
  q0 : 0 ≤ q
  q1 : q ≤ 4294967297
  up : u * 4294967296 + d < (q + 1) * (y1 * 4294967296 + y0)

theorem mulY (q y1 y0 : Int) : q * (y1 * 4294967296 + y0) = q * y1 * 4294967296 + q * y0 := by rw [Int.mul_add, Int.mul_assoc]

theorem Guess.first (u y1 y0 d : Int) (u0 : 0 ≤ u) (hy1 : 2147483648 ≤ y1) (hy0 : 0 ≤ y0) (hy0' : y0 < 4294967296) (hu : u < y1 * 4294967296 + y0) (d1 : d < 4294967296) :
    Guess u y1 y0 d (u / y1) (u - u / y1 * y1) := by
  have hp : 0 < y1 := by omega
  have hm := Int.emod_nonneg u (by omega : y1 ≠ 0)
  have hl := Int.emod_lt_of_pos u hp
  have he := Int.emod_def u y1
  have hc : y1 * (u / y1) = u / y1 * y1 := Int.mul_comm _ _
  refine ⟨by omega, by omega, Int.ediv_nonneg u0 (by omega), ?_, ?_⟩
  · have : u / y1 < 4294967298 := Int.ediv_lt_of_lt_mul hp (by omega)
    omega
  · rw [mulY]
    have h1 : (u / y1 + 1) * y1 = u / y1 * y1 + y1 := by rw [Int.add_mul, Int.one_mul]
    have h2 : 0 ≤ (u / y1 + 1) * y0 := Int.mul_nonneg (by have := Int.ediv_nonneg u0 (by omega : (0 : Int) ≤ y1); omega) hy0
    omega

theorem Guess.done {u y1 y0 d q r : Int} (g : Guess u y1 y0 d q r) (h : q * y0 ≤ 4294967296 * r + d) :
    q * (y1 * 4294967296 + y0) ≤ u * 4294967296 + d := by
  have e := g.eq
  rw [mulY]
  omega

theorem Guess.over {u y1 y0 d q r : Int} (g : Guess u y1 y0 d q r) (hY : 0 < y1 * 4294967296 + y0) (hu : u < y1 * 4294967296 + y0) (d1 : d < 4294967296) (h : 4294967296 ≤ q ∨ 4294967296 * r + d < q * y0) :
    u * 4294967296 + d < q * (y1 * 4294967296 + y0) := by
  have e := g.eq
  rcases h with h | h
  · have h1 : 4294967296 * (y1 * 4294967296 + y0) ≤ q * (y1 * 4294967296 + y0) := Int.mul_le_mul_of_nonneg_right h (by omega)
    omega
  · rw [mulY]
    omega

theorem Guess.next {u y1 y0 d q r : Int} (g : Guess u y1 y0 d q r) (u0 : 0 ≤ u) (d0 : 0 ≤ d) (hy1 : 0 ≤ y1) (hY : 0 < y1 * 4294967296 + y0) (hu : u < y1 * 4294967296 + y0) (d1 : d < 4294967296) (h : 4294967296 ≤ q ∨ 4294967296 * r + d < q * y0) :
    Guess u y1 y0 d (q - 1) (r + y1) ∧ q - 1 ≤ 4294967296 := by
  have ho := g.over hY hu d1 h
  have e := g.eq
  have r0 := g.r0
  have q0 := g.q0
  have q1 := g.q1
  have hq : 0 < q := by
    rcases Int.lt_or_eq_of_le q0 with h | h
    · exact h
    · rw [← h, Int.zero_mul] at ho; omega
  refine ⟨⟨?_, by omega, by omega, by omega, ?_⟩, by omega⟩
  · rw [Int.sub_mul, Int.one_mul]; omega
  · rw [Int.sub_add_cancel]; exact ho

theorem Guess.leave {u y1 y0 d q r : Int} (g : Guess u y1 y0 d q r) (hq : q ≤ 4294967296) (d0 : 0 ≤ d) (hy0 : 0 ≤ y0) (hy0' : y0 < 4294967296) (hr : 4294967296 ≤ r) :
    q * (y1 * 4294967296 + y0) ≤ u * 4294967296 + d := by
  have e := g.eq
  have h1 : q * y0 ≤ 4294967296 * y0 := Int.mul_le_mul_of_nonneg_right hq hy0
  rw [mulY]
  omega

/-- what holds of a digit -/
structure Digit (u Y d q : Int) : Prop where
  q0 : 0 ≤ q
  q1 : q < 4294967296
  lo : q * Y ≤ u * 4294967296 + d
  up : u * 4294967296 + d < q * Y + Y

theorem Digit.mk' {u Y d q : Int} (q0 : 0 ≤ q) (hY : 0 < Y) (hu : u < Y) (d1 : d < 4294967296) (lo : q * Y ≤ u * 4294967296 + d) (up : u * 4294967296 + d < (q + 1) * Y) : Digit u Y d q := by
  refine ⟨q0, ?_, lo, by rw [Int.add_mul, Int.one_mul] at up; exact up⟩
  apply Int.lt_of_not_ge
  intro hq
  have h1 : 4294967296 * Y ≤ q * Y := Int.mul_le_mul_of_nonneg_right hq (by omega)
  omega

theorem div_of {N Y q r : Int} (hr : 0 ≤ r) (hr' : r < Y) (h : q * Y + r = N) : N / Y = q := by
  have hY : Y ≠ 0 := by omega
  rw [← h, Int.add_comm, Int.add_mul_ediv_right _ _ hY, Int.ediv_eq_zero_of_lt hr hr', Int.zero_add]

/-- two digits are the quotient -/
theorem two_digits {u Y d1 d0 q1 q0 m : Int} (hm : m = u * 4294967296 + d1 - q1 * Y) (g0 : Digit m Y d0 q0) :
    (u * 18446744073709551616 + (d1 * 4294967296 + d0)) / Y = q1 * 4294967296 + q0 := by
  have a1 := g0.lo
  have a2 := g0.up
  refine div_of (r := m * 4294967296 + d0 - q0 * Y) (by omega) (by omega) ?_
  rw [Int.add_mul, Int.mul_assoc, Int.mul_comm 4294967296 Y, ← Int.mul_assoc]
  omega

theorem bitLen_spec : ∀ (f x : Nat), x ≠ 0 → x < 2 ^ f → 1 ≤ Lib.bitLenAux f x ∧ 2 ^ (Lib.bitLenAux f x - 1) ≤ x ∧ x < 2 ^ Lib.bitLenAux f x
  | 0, x, h, hx => by simp at hx; omega
  | f + 1, x, h, hx => by
    simp only [Lib.bitLenAux, if_neg h]
    by_cases h2 : x / 2 = 0
    · have h3 : x = 1 := by omega
      rw [h2]
      have : Lib.bitLenAux f 0 = 0 := by cases f <;> simp [Lib.bitLenAux]
      rw [this]; simp; omega
    · obtain ⟨a, b, c⟩ := bitLen_spec f (x / 2) h2 (by rw [Nat.pow_succ] at hx; omega)
      obtain ⟨k, hk⟩ : ∃ k, Lib.bitLenAux f (x / 2) = k + 1 := ⟨Lib.bitLenAux f (x / 2) - 1, by omega⟩
      rw [hk] at b c ⊢
      simp only [Nat.add_sub_cancel] at b
      refine ⟨by omega, ?_, ?_⟩
      · rw [show 1 + (k + 1) - 1 = k + 1 from by omega, Nat.pow_succ]; omega
      · rw [show 1 + (k + 1) = (k + 1) + 1 from by omega, Nat.pow_succ]; omega

/-- how far a number must be moved up, till its highest bit of 64 is 1 -/
theorem shift_spec (y : Int) (y0 : 0 < y) (y1 : y < 18446744073709551616) :
    ∃ (s : Nat) (t e : Int), s ≤ 63 ∧ (64 - (Lib.bitLen y.toNat : Int)) = s ∧ (2 : Int) ^ s = t ∧ (2 : Int) ^ (64 - s) = e ∧ 1 ≤ t ∧ 1 ≤ e ∧ t * e = 18446744073709551616 ∧ 9223372036854775808 ≤ y * t ∧ y * t < 18446744073709551616 := by
  obtain ⟨n, rfl⟩ := Int.eq_ofNat_of_zero_le (Int.le_of_lt y0)
  obtain ⟨a, b, c⟩ := bitLen_spec 64 n (by omega) (by omega)
  have hL := Lib.bitLen_le n 64 (by omega) (by omega)
  simp only [Int.toNat_natCast]
  change 1 ≤ Lib.bitLen n at a
  change 2 ^ (Lib.bitLen n - 1) ≤ n at b
  change n < 2 ^ Lib.bitLen n at c
  generalize Lib.bitLen n = L at *
  have hp : 0 < 2 ^ (64 - L) := Nat.two_pow_pos _
  have hp2 : 0 < 2 ^ L := Nat.two_pow_pos _
  have e1 : 2 ^ (64 - L) * 2 ^ L = 18446744073709551616 := by rw [← Nat.pow_add, show 64 - L + L = 64 from by omega]
  have e2 : 2 ^ (L - 1) * 2 ^ (64 - L) = 9223372036854775808 := by rw [← Nat.pow_add, show L - 1 + (64 - L) = 63 from by omega]
  have i1 : 2 ^ (L - 1) * 2 ^ (64 - L) ≤ n * 2 ^ (64 - L) := Nat.mul_le_mul_right _ b
  have i2 : n * 2 ^ (64 - L) < 2 ^ L * 2 ^ (64 - L) := Nat.mul_lt_mul_of_pos_right c hp
  rw [Nat.mul_comm (2 ^ L)] at i2
  have c1 : ((2 : Int) ^ (64 - L)) = ((2 ^ (64 - L) : Nat) : Int) := by simp
  have c2 : ((2 : Int) ^ (64 - (64 - L))) = ((2 ^ L : Nat) : Int) := by rw [show 64 - (64 - L) = L from by omega]; simp
  refine ⟨64 - L, _, _, by omega, by omega, rfl, rfl, ?_, ?_, ?_, ?_, ?_⟩
  · rw [c1]; omega
  · rw [c2]; omega
  · rw [c1, c2, ← Int.natCast_mul, e1]; rfl
  · rw [c1, ← Int.natCast_mul]; omega
  · rw [c1, ← Int.natCast_mul]; omega

/-- the dividend, moved up -/
theorem moved (hi lo y t e : Int) (h0 : 0 ≤ hi) (l0 : 0 ≤ lo) (l1 : lo < 18446744073709551616) (hy : hi < y) (ht : 1 ≤ t) (he : 1 ≤ e) (hte : t * e = 18446744073709551616) :
    0 ≤ lo / e ∧ lo / e < t ∧ 0 ≤ hi * t ∧ hi * t + lo / e < y * t ∧ (hi * t + lo / e) * 18446744073709551616 + lo * t % 18446744073709551616 = (hi * 18446744073709551616 + lo) * t := by
  have q0 : 0 ≤ lo / e := Int.ediv_nonneg l0 (by omega)
  have q1 : lo / e < t := Int.ediv_lt_of_lt_mul (by omega) (by omega)
  have h1 : 0 ≤ hi * t := Int.mul_nonneg h0 (by omega)
  have h2 : (hi + 1) * t ≤ y * t := Int.mul_le_mul_of_nonneg_right (by omega) (by omega)
  rw [Int.add_mul, Int.one_mul] at h2
  have d1 : lo * t / 18446744073709551616 = lo / e := by
    rw [← hte, Int.mul_comm t e, Int.mul_ediv_mul_of_pos_left _ _ (by omega)]
  have d2 := Int.emod_add_mul_ediv (lo * t) 18446744073709551616
  rw [d1] at d2
  have d3 : (hi * 18446744073709551616 + lo) * t = hi * t * 18446744073709551616 + lo * t := by
    rw [Int.add_mul, Int.mul_assoc, Int.mul_comm 18446744073709551616 t, ← Int.mul_assoc]
  refine ⟨q0, q1, h1, by omega, ?_⟩
  rw [d3]
  omega

/-- bits that don't meet are added -/
theorem or_add (a b : Int) (s : Nat) (t : Int) (ht : (2 : Int) ^ s = t) (a0 : 0 ≤ a) (b0 : 0 ≤ b) (b1 : b < t) (h : a * t < 18446744073709551616) (h' : b < 18446744073709551616) :
    bits BinOp.or IntKind.u64 (a * t) b = a * t + b := by
  obtain ⟨A, rfl⟩ := Int.eq_ofNat_of_zero_le a0
  obtain ⟨C, rfl⟩ := Int.eq_ofNat_of_zero_le b0
  have c1 : t = ((2 ^ s : Nat) : Int) := by rw [← ht]; simp
  subst c1
  rw [← Int.natCast_mul] at h ⊢
  rw [u64_or_nat (A * 2 ^ s) C (by omega) (by omega)]
  have := Nat.shiftLeft_add_eq_or_of_lt (b := C) (i := s) (by omega) A
  rw [Nat.shiftLeft_eq] at this
  rw [← this]
  rfl
end Go.Proofs.YthocnlalahknjaaGreat
