/-
  The method by which places are put in order, and the closure of it, in the program with the closure beside it. Conditions: the row that it reads holds its cells.
-/
import Derived.Test.YtdbjfginigekbaaSim10
import Derived.WalkKit
import Derived.BigQuiet
import Derived.Deep.QuietTactic
import Derived.Shelf.RegionOpenPlain
namespace Go.Proofs.Ytdbjfginigekbaa
open Go Go.Shelf Go.RowKit

/-- Which of two places is ahead: that of which more is left over, and of as much the one that stands ahead. -/
def aheadOf (ls : Nat → Int) (a b : Nat) : Int := if Lib.compareInt (ls b) (ls a) ≠ 0 then Lib.compareInt (ls b) (ls a) else Lib.compareInt a b

set_option maxHeartbeats 1000000 in
set_option maxRecDepth 100000 in
theorem ahead2 (ls : Nat → Int) (lb lo n c a b : Nat) (w : World) (ha : a < n) (hb : b < n) (hn : n < 4611686018427387904)
    (ca : w.cell? ⟨lb, lo + a, none⟩ = some (.int .i64 (ls a))) (cb : w.cell? ⟨lb, lo + b, none⟩ = some (.int .i64 (ls b))) :
    Calls prog2 38 #[.slice (some ⟨lb, lo, none⟩) n c, .int .i64 a, .int .i64 b] w fun e w' => e = .returned (.int .i64 (aheadOf ls a b)) ∧ ∃ q, w' = w.drewN q := by
  have F38 : prog2.funcs[38]? = some Try.f38 := (get2 38 rfl).trans Try.func38
  have t2 := und2 Try.underlying2; have a2 := isAgg2 Try.isAgg2; have z2 := sizeOf2 Try.sizeOf2; have v2 := zeroValue2 Try.zeroValue2
  have t3 := und2 Try.underlying3; have a3 := isAgg2 Try.isAgg3; have z3 := sizeOf2 Try.sizeOf3; have v3 := zeroValue2 Try.zeroValue3
  have t4 := und2 Try.underlying4; have a4 := isAgg2 Try.isAgg4; have z4 := sizeOf2 Try.sizeOf4; have v4 := zeroValue2 Try.zeroValue4
  have t38 := und2 Try.underlying38; have a38 := isAgg2 Try.isAgg38; have z38 := sizeOf2 Try.sizeOf38; have v38 := zeroValue2 Try.zeroValue38
  have u38 := run_underlying t38
  have mixed : prog2.follows .mixedOrders = true := by kernel_rfl
  have e48 : ∀ args w, (callFunc 48 args).run prog2 w = .ok (.enter 48 args) w := enters_of ((get2 48 rfl).trans Try.func48) (by kernel_rfl) rfl
  have e49 : ∀ args w, (callFunc 49 args).run prog2 w = .ok (.enter 49 args) w := enters_of ((get2 49 rfl).trans Try.func49) (by kernel_rfl) rfl
  have hc1 : ∀ w, Calls prog2 48 #[.int .i64 (ls b), .int .i64 (ls a)] w fun e w' => e = .returned (.int .i64 (Lib.compareInt (ls b) (ls a))) ∧ w' = w := fun w => AnyG.cmp_Compare_int cmp64L _ _ w
  have hc2 : ∀ w, Calls prog2 49 #[.int .i64 a, .int .i64 b] w fun e w' => e = .returned (.int .i64 (Lib.compareInt a b)) ∧ w' = w := fun w => AnyG.cmp_Compare_int cmpIntL _ _ w
  have haz : (a : Int) < (n : Int) := by omega
  have hbz : (b : Int) < (n : Int) := by omega
  have wa : IntKind.i64.wrap (a : Int) = a := by rw [IntKind.wrap_i64]; omega
  have wb : IntKind.i64.wrap (b : Int) = b := by rw [IntKind.wrap_i64]; omega
  unfold aheadOf
  generalize Lib.compareInt (ls b) (ls a) = r at *
  generalize Lib.compareInt (a : Int) b = r2 at *
  generalize ls a = la at *
  generalize ls b = lb' at *
  go_enter F38, Try.ntmps38
  go_wp2_with fail
  go_quiet (first | (go_at_call 48; refine Calls.quiet_of_same (hc1 _)))
  clear ca cb hc1
  by_cases hr : r = 0
  · subst hr
    go_wp2_with (first | (go_at_call 49; refine (hc2 _).mono ?_; rintro e w' ⟨rfl, rfl⟩))
    go_ret
    exact ⟨by simp, nq, rfl⟩
  · go_wp2
    go_ret
    exact ⟨by simp, nq, rfl⟩

set_option maxHeartbeats 1000000 in
set_option maxRecDepth 100000 in
theorem closure2 (ls : Nat → Int) (lb lo n c a b : Nat) (w : World) (ha : a < n) (hb : b < n) (hn : n < 4611686018427387904)
    (ca : w.cell? ⟨lb, lo + a, none⟩ = some (.int .i64 (ls a))) (cb : w.cell? ⟨lb, lo + b, none⟩ = some (.int .i64 (ls b))) :
    Calls prog2 84 #[.int .i64 a, .int .i64 b, .slice (some ⟨lb, lo, none⟩) n c] w fun e w' => e = .returned (.int .i64 (aheadOf ls a b)) ∧ ∃ q, w' = w.drewN q := by
  have F84 : prog2.funcs[84]? = some gfn := funcs2_last
  have e38 : ∀ args w, (callFunc 38 args).run prog2 w = .ok (.enter 38 args) w := enters_of ((get2 38 rfl).trans Try.func38) (by kernel_rfl) rfl
  have hcon := ahead2 ls lb lo n c a b w ha hb hn ca cb
  generalize aheadOf ls a b = r at *
  clear ca cb
  go_enter F84, (rfl : gfn.ntmps = 4)
  rw [show gfn.ntmps - 3 = 1 from rfl]
  unfold gbody callOp
  go_wp2_with (first | (go_at_call 38; refine hcon.mono ?_; rintro e w' ⟨rfl, q, rfl⟩))
  go_ret
  exact ⟨rfl, q, rfl⟩

end Go.Proofs.Ytdbjfginigekbaa
