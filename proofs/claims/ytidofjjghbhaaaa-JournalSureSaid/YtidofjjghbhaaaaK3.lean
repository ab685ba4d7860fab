/- The contracts of frame's Check and takeWord, of the reference's number. -/
import Derived.Test.YtidofjjghbhaaaaK2
namespace Go.Proofs.Ytidofjjghbhaaaa
open Go.RowKit
set_option linter.unusedVariables false

theorem below_dn {B : Nat} {w w1 : World} (h : Below B w w1) : ∀ n, Below B w (w1.drewN n)
  | 0 => h
  | n + 1 => (below_dn h n).drew
/-- four bytes of a text, from a place on -/
def at4 (s : ByteArray) (k : Nat) : Nat := num ((bl s).drop k)
theorem bl_get (s : ByteArray) (k : Nat) (h : k < s.size) : (bl s)[k]? = some s[k] := by
  have := List.getElem?_eq_getElem (l := bl s) (i := k) (by rw [bl_length]; exact h)
  rw [this]; rfl
theorem at4_eq (s : ByteArray) (k : Nat) (h : k + 3 < s.size) : at4 s k = s[k].toNat * 16777216 + s[k + 1].toNat * 65536 + s[k + 2].toNat * 256 + s[k + 3].toNat := by
  unfold at4
  have e : ∀ j (hj : j < s.size), (bl s).drop j = s[j] :: (bl s).drop (j + 1) := fun j hj => by
    rw [List.drop_eq_getElem_cons (by rw [bl_length]; exact hj)]; rfl
  rw [e k (by omega), e (k + 1) (by omega), e (k + 2) (by omega), e (k + 3) (by omega)]
  rfl
theorem or_word (a b c d : Nat) (ha : a < 256) (hb : b < 256) (hc : c < 256) (hd : d < 256) :
    bits .or .u32 (bits .or .u32 (bits .or .u32 (IntKind.u32.wrap ((a : Int) * 16777216)) (IntKind.u32.wrap ((b : Int) * 65536))) (IntKind.u32.wrap ((c : Int) * 256))) (d : Int) = ((a * 16777216 + b * 65536 + c * 256 + d : Nat) : Int) := by
  have w1 : IntKind.u32.wrap ((a : Int) * 16777216) = ((a * 16777216 : Nat) : Int) := by rw [IntKind.wrap_u32']; omega
  have w2 : IntKind.u32.wrap ((b : Int) * 65536) = ((b * 65536 : Nat) : Int) := by rw [IntKind.wrap_u32']; omega
  have w3 : IntKind.u32.wrap ((c : Int) * 256) = ((c * 256 : Nat) : Int) := by rw [IntKind.wrap_u32']; omega
  rw [w1, w2, w3, u32_or_nat _ _ (by omega) (by omega)]
  have e1 : a * 16777216 ||| b * 65536 = a * 16777216 + b * 65536 := by
    have := Nat.two_pow_add_eq_or_of_lt (i := 24) (b := b * 65536) (by omega) a
    rw [show 2 ^ 24 * a = a * 16777216 by omega] at this; exact this.symm
  rw [e1, u32_or_nat _ _ (by omega) (by omega)]
  have e2 : (a * 16777216 + b * 65536) ||| c * 256 = a * 16777216 + b * 65536 + c * 256 := by
    have := Nat.two_pow_add_eq_or_of_lt (i := 16) (b := c * 256) (by omega) (a * 256 + b)
    rw [show 2 ^ 16 * (a * 256 + b) = a * 16777216 + b * 65536 by omega] at this; exact this.symm
  rw [e2, u32_or_nat _ _ (by omega) (by omega)]
  have e3 : (a * 16777216 + b * 65536 + c * 256) ||| d = a * 16777216 + b * 65536 + c * 256 + d := by
    have := Nat.two_pow_add_eq_or_of_lt (i := 8) (b := d) (by omega) (a * 65536 + b * 256 + c)
    rw [show 2 ^ 8 * (a * 65536 + b * 256 + c) = a * 16777216 + b * 65536 + c * 256 by omega] at this; exact this.symm
  rw [e3]

set_option maxHeartbeats 1000000 in
set_option maxRecDepth 100000 in
theorem word_any (s : ByteArray) (w : World) (h4 : 4 ≤ s.size) (hs : s.size ≤ 4611686018427387904) :
    Calls Try.prog 91 #[.string s] w fun e w' => e = .returned (.int .u32 ((at4 s 0 : Nat) : Int)) ∧ ∃ n, w' = w.drewN n := by
  have h0 : 0 < s.size := by omega
  have h1 : 1 < s.size := by omega
  have h2 : 2 < s.size := by omega
  have h3 : 3 < s.size := by omega
  have he := at4_eq s 0 (by omega)
  have hE := or_word s[0].toNat s[0 + 1].toNat s[0 + 2].toNat s[0 + 3].toNat s[0].toNat_lt s[0 + 1].toNat_lt s[0 + 2].toNat_lt s[0 + 3].toNat_lt
  rw [← he] at hE
  replace hE := Lib.hid hE
  clear he
  have i1 : (1 : Int) < (s.size : Int) := by omega
  have i2 : (2 : Int) < (s.size : Int) := by omega
  have i3 : (3 : Int) < (s.size : Int) := by omega
  have a0 := IntWalk.u32_in (s[0].toNat : Int) (by have := s[0].toNat_lt; omega)
  have a1 := IntWalk.u32_in (s[1].toNat : Int) (by have := s[1].toNat_lt; omega)
  have a2 := IntWalk.u32_in (s[2].toNat : Int) (by have := s[2].toNat_lt; omega)
  have a3 := IntWalk.u32_in (s[3].toNat : Int) (by have := s[3].toNat_lt; omega)
  go_enter Try.func91, Try.ntmps91
  go_wp2_with fail
  go_quiet (fail)
  go_wp2_with fail
  go_ret
  exact ⟨by rw [← hE.out]; rfl, nq, rfl⟩
set_option maxHeartbeats 1000000 in
set_option maxRecDepth 100000 in
theorem number_any (s : ByteArray) (k : Nat) (w : World) (h4 : k + 4 ≤ s.size) (hs : s.size ≤ 4611686018427387904) :
    Calls Try.prog 78 #[.string s, .int .i64 k] w fun e w' => e = .returned (.int .i64 ((at4 s k : Nat) : Int)) ∧ ∃ n, w' = w.drewN n := by
  have h0 : (k : Int) < (s.size : Int) := by omega
  have h1 : (k : Int) + 1 < (s.size : Int) := by omega
  have h2 : (k : Int) + 2 < (s.size : Int) := by omega
  have h3 : (k : Int) + 3 < (s.size : Int) := by omega
  have he := at4_eq s k (by omega)
  have hb0 := s[k].toNat_lt
  have hb1 := s[k + 1].toNat_lt
  have hb2 := s[k + 2].toNat_lt
  have hb3 := s[k + 3].toNat_lt
  have q1 : (0 : Int) ≤ (k : Int) + 1 := by omega
  have q2 : (0 : Int) ≤ (k : Int) + 2 := by omega
  have q3 : (0 : Int) ≤ (k : Int) + 3 := by omega
  have a0 := IntWalk.i64_in (s[k].toNat : Int) (by omega)
  have a1 := IntWalk.i64_in (s[k + 1].toNat : Int) (by omega)
  have a2 := IntWalk.i64_in (s[k + 2].toNat : Int) (by omega)
  have a3 := IntWalk.i64_in (s[k + 3].toNat : Int) (by omega)
  have m0 := IntWalk.i64_in ((s[k].toNat : Int) * 16777216) (by omega)
  have m1 := IntWalk.i64_in ((s[k + 1].toNat : Int) * 65536) (by omega)
  have m2 := IntWalk.i64_in ((s[k + 2].toNat : Int) * 256) (by omega)
  have e1 := IntWalk.i64_in ((k : Int) + 1) (by omega)
  have e2 := IntWalk.i64_in ((k : Int) + 2) (by omega)
  have e3 := IntWalk.i64_in ((k : Int) + 3) (by omega)
  have t1 : ((k : Int) + 1).toNat = k + 1 := by omega
  have t2 : ((k : Int) + 2).toNat = k + 2 := by omega
  have t3 : ((k : Int) + 3).toNat = k + 3 := by omega
  have s1 := IntWalk.i64_in ((s[k].toNat : Int) * 16777216 + (s[k + 1].toNat : Int) * 65536) (by omega)
  have s2 := IntWalk.i64_in ((s[k].toNat : Int) * 16777216 + (s[k + 1].toNat : Int) * 65536 + (s[k + 2].toNat : Int) * 256) (by omega)
  have s3 := IntWalk.i64_in ((s[k].toNat : Int) * 16777216 + (s[k + 1].toNat : Int) * 65536 + (s[k + 2].toNat : Int) * 256 + (s[k + 3].toNat : Int)) (by omega)
  replace he := Lib.hid he
  go_enter Try.func78, Try.ntmps78
  go_wp2_with fail
  go_quiet (fail)
  go_wp2_with fail
  go_ret
  exact ⟨by rw [he.out]; rfl, nq, rfl⟩
end Go.Proofs.Ytidofjjghbhaaaa
