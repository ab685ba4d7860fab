/- The contracts of frame's Check and takeWord, of the reference's number. -/
import Derived.Test.YtghebijikdnikaaK2
namespace Go.Proofs.Ytghebijikdnikaa
open Go.RowKit
set_option linter.unusedVariables false

theorem below_dn {B : Nat} {w w1 : World} (h : Below B w w1) : ∀ n, Below B w (w1.drewN n)
  | 0 => h
  | n + 1 => (below_dn h n).drew
/-- four bytes of a text, from a place on -/
def at4 (s : ByteArray) (k : Nat) : Nat := num ((bl s).drop k)
theorem bl_get (s : ByteArray) (k : Nat) (h : k < s.size) : (bl s)[k]? = some s[k] := by
  have := List.getElem?_eq_getElem (l := bl s) (i := k) (by rw [bl_length]; exact h)
  rw [this]; rfl
theorem at4_eq (s : ByteArray) (k : Nat) (h : k + 3 < s.size) : at4 s k = s[k].toNat * 16777216 + s[k + 1].toNat * 65536 + s[k + 2].toNat * 256 + s[k + 3].toNat := by
  unfold at4
  have e : ∀ j (hj : j < s.size), (bl s).drop j = s[j] :: (bl s).drop (j + 1) := fun j hj => by
    rw [List.drop_eq_getElem_cons (by rw [bl_length]; exact hj)]; rfl
  rw [e k (by omega), e (k + 1) (by omega), e (k + 2) (by omega), e (k + 3) (by omega)]
  rfl
theorem or_word (a b c d : Nat) (ha : a < 256) (hb : b < 256) (hc : c < 256) (hd : d < 256) :
    bits .or .u32 (bits .or .u32 (bits .or .u32 (IntKind.u32.wrap ((a : Int) * 16777216)) (IntKind.u32.wrap ((b : Int) * 65536))) (IntKind.u32.wrap ((c : Int) * 256))) (d : Int) = ((a * 16777216 + b * 65536 + c * 256 + d : Nat) : Int) := by
  have w1 : IntKind.u32.wrap ((a : Int) * 16777216) = ((a * 16777216 : Nat) : Int) := by rw [IntKind.wrap_u32']; omega
  have w2 : IntKind.u32.wrap ((b : Int) * 65536) = ((b * 65536 : Nat) : Int) := by rw [IntKind.wrap_u32']; omega
  have w3 : IntKind.u32.wrap ((c : Int) * 256) = ((c * 256 : Nat) : Int) := by rw [IntKind.wrap_u32']; omega
  rw [w1, w2, w3, u32_or_nat _ _ (by omega) (by omega)]
  have e1 : a * 16777216 ||| b * 65536 = a * 16777216 + b * 65536 := by
    have := Nat.two_pow_add_eq_or_of_lt (i := 24) (b := b * 65536) (by omega) a
    rw [show 2 ^ 24 * a = a * 16777216 by omega] at this; exact this.symm
  rw [e1, u32_or_nat _ _ (by omega) (by omega)]
  have e2 : (a * 16777216 + b * 65536) ||| c * 256 = a * 16777216 + b * 65536 + c * 256 := by
    have := Nat.two_pow_add_eq_or_of_lt (i := 16) (b := c * 256) (by omega) (a * 256 + b)
    rw [show 2 ^ 16 * (a * 256 + b) = a * 16777216 + b * 65536 by omega] at this; exact this.symm
  rw [e2, u32_or_nat _ _ (by omega) (by omega)]
  have e3 : (a * 16777216 + b * 65536 + c * 256) ||| d = a * 16777216 + b * 65536 + c * 256 + d := by
    have := Nat.two_pow_add_eq_or_of_lt (i := 8) (b := d) (by omega) (a * 65536 + b * 256 + c)
    rw [show 2 ^ 8 * (a * 65536 + b * 256 + c) = a * 16777216 + b * 65536 + c * 256 by omega] at this; exact this.symm
  rw [e3]

end Go.Proofs.Ytghebijikdnikaa
