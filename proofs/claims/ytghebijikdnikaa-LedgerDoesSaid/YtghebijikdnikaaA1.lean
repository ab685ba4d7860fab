/- Contracts of money's small functions: widen, plus, minus, amount. -/
import Derived.Test.YtghebijikdnikaaProg
import Derived.WalkKit
import Derived.Below
import Derived.Laws.Externs
import Derived.Shelf.Spec.BitsCarry
import Derived.Lib.Hide
import Derived.Outline
import Derived.Deep.RegionHeld3
namespace Go.Proofs.Ytghebijikdnikaa
open Go.RowKit

def hiOf (a : Int) : Int := if a < 0 then 18446744073709551615 else 0
def loOf (a : Int) : Int := if a < 0 then a + 18446744073709551616 else a

theorem wrap_hi (a : Int) (h0 : -9223372036854775808 ≤ a) (h1 : a ≤ 9223372036854775807) : IntKind.u64.wrap (a / 9223372036854775808) = hiOf a := by
  unfold hiOf; rw [IntKind.wrap_u64]; split <;> omega
theorem wrap_lo (a : Int) (h0 : -9223372036854775808 ≤ a) (h1 : a ≤ 9223372036854775807) : IntKind.u64.wrap a = loOf a := by
  unfold loOf; rw [IntKind.wrap_u64]; split <;> omega

set_option maxHeartbeats 400000 in
theorem widen_any (a : Int) (w : World) (h0 : -9223372036854775808 ≤ a) (h1 : a ≤ 9223372036854775807) :
    Calls Try.prog 41 #[.int .i64 a] w fun e w' => e = .returned (.agg #[.int .u64 (hiOf a), .int .u64 (loOf a)]) ∧ Below w.heap.size w w' := by
  have e1 := Lib.hid (wrap_hi a h0 h1)
  have e2 := Lib.hid (wrap_lo a h0 h1)
  go_enter Try.func41, Try.ntmps41
  go_wp2
  rw [e1.out, e2.out]
  exact bodyPost_ret (v := .agg #[.int .u64 (hiOf a), .int .u64 (loOf a)]) (by simp [results, Try.results41, go_sem]) rfl ⟨rfl, (Below.refl _ _).alloc (Nat.le_refl _) _⟩

def addLo (x y c : Int) : Int := (x + y + c) % 18446744073709551616
def addHi (x y c : Int) : Int := (x + y + c) / 18446744073709551616
def subLo (x y c : Int) : Int := (x - y - c) % 18446744073709551616
def subHi (x y c : Int) : Int := if x < y + c then 1 else 0

theorem add64_run (x y c : Int) (hx : 0 ≤ x) (hy : 0 ≤ y) (hc0 : 0 ≤ c) (hc : c ≤ 1) (w : World) :
    (callFunc 53 #[.int .u64 x, .int .u64 y, .int .u64 c]).run Try.prog w = .ok (.value (.tuple #[.int .u64 (addLo x y c), .int .u64 (addHi x y c)])) w := by
  rw [run_callFunc_extern Try.func53 (by kernel_rfl) (by kernel_rfl) (by kernel_rfl) (e := add64Entry) (by kernel_rfl), run_add64 x y c hx hy hc0 hc]
  rfl

theorem addHi_bd (x y c : Int) (hx : 0 ≤ x) (hx1 : x < 18446744073709551616) (hy : 0 ≤ y) (hy1 : y < 18446744073709551616) (hc0 : 0 ≤ c) (hc : c ≤ 1) : 0 ≤ addHi x y c ∧ addHi x y c ≤ 1 := by unfold addHi; omega
theorem subHi_bd (x y c : Int) : 0 ≤ subHi x y c ∧ subHi x y c ≤ 1 := by unfold subHi; split <;> omega

set_option maxHeartbeats 400000 in
theorem plus_any (h l h' l' : Int) (w : World) (a0 : 0 ≤ h) (b0 : 0 ≤ l) (b1 : l < 18446744073709551616) (a0' : 0 ≤ h') (b0' : 0 ≤ l') (b1' : l' < 18446744073709551616) :
    Calls Try.prog 40 #[.agg #[.int .u64 h, .int .u64 l], .agg #[.int .u64 h', .int .u64 l']] w fun e w' =>
      e = .returned (.agg #[.int .u64 (addLo h h' (addHi l l' 0)), .int .u64 (addLo l l' 0)]) ∧ Below w.heap.size w w' := by
  obtain ⟨c0, c1⟩ := addHi_bd l l' 0 b0 b1 b0' b1' (by omega) (by omega)
  have r1 := fun w => add64_run l l' 0 b0 b0' (by omega) (by omega) w
  have r2 := fun w => add64_run h h' (addHi l l' 0) a0 a0' c0 c1 w
  go_enter Try.func40, Try.ntmps40
  go_wp2
  exact bodyPost_ret (v := .agg #[.int .u64 (addLo h h' (addHi l l' 0)), .int .u64 (addLo l l' 0)]) (by simp [results, Try.results40, go_sem]) rfl ⟨rfl, (((Below.refl _ _).alloc (Nat.le_refl _) _).alloc (by simp) _).alloc (by simp; omega) _⟩

end Go.Proofs.Ytghebijikdnikaa
