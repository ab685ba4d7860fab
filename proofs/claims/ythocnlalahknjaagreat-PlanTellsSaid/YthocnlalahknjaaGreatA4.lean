/- Contracts of money's small functions: widen, plus, minus, amount.
  The contracts of money's numbers of 128 bits (widen, plus, minus, amount), stated of the exact number that they stand for.
  The contracts of money's Add, Sub, Size, magnitude, signed, halves, halfUp, product.
  The contract of money's product. -/
import Derived.Test.YthocnlalahknjaaGreatProg
import Derived.WalkKit
import Derived.Below
import Derived.Laws.Externs
import Derived.Shelf.Spec.BitsCarry
import Derived.Lib.Hide
import Derived.Outline
import Derived.Deep.RegionHeld3
import Derived.Deep.RegionWith
import Derived.Laws.BitsAllLaws
namespace Go.Proofs.YthocnlalahknjaaGreat
open Go.RowKit

def hiOf (a : Int) : Int := if a < 0 then 18446744073709551615 else 0
def loOf (a : Int) : Int := if a < 0 then a + 18446744073709551616 else a

theorem wrap_hi (a : Int) (h0 : -9223372036854775808 ≤ a) (h1 : a ≤ 9223372036854775807) : IntKind.u64.wrap (a / 9223372036854775808) = hiOf a := by
  unfold hiOf; rw [IntKind.wrap_u64]; split <;> omega
theorem wrap_lo (a : Int) (h0 : -9223372036854775808 ≤ a) (h1 : a ≤ 9223372036854775807) : IntKind.u64.wrap a = loOf a := by
  unfold loOf; rw [IntKind.wrap_u64]; split <;> omega

set_option maxHeartbeats 400000 in
theorem widen_any (a : Int) (w : World) (h0 : -9223372036854775808 ≤ a) (h1 : a ≤ 9223372036854775807) :
    Calls Tryz.prog 44 #[.int .i64 a] w fun e w' => e = .returned (.agg #[.int .u64 (hiOf a), .int .u64 (loOf a)]) ∧ Below w.heap.size w w' := by
  have e1 := Lib.hid (wrap_hi a h0 h1)
  have e2 := Lib.hid (wrap_lo a h0 h1)
  go_enter Tryz.func44, Tryz.ntmps44
  go_wp2
  rw [e1.out, e2.out]
  exact bodyPost_ret (v := .agg #[.int .u64 (hiOf a), .int .u64 (loOf a)]) (by simp [results, Tryz.results44, go_sem]) rfl ⟨rfl, (Below.refl _ _).alloc (Nat.le_refl _) _⟩

def addLo (x y c : Int) : Int := (x + y + c) % 18446744073709551616
def addHi (x y c : Int) : Int := (x + y + c) / 18446744073709551616
def subLo (x y c : Int) : Int := (x - y - c) % 18446744073709551616
def subHi (x y c : Int) : Int := if x < y + c then 1 else 0

theorem add64_run (x y c : Int) (hx : 0 ≤ x) (hy : 0 ≤ y) (hc0 : 0 ≤ c) (hc : c ≤ 1) (w : World) :
    (callFunc 73 #[.int .u64 x, .int .u64 y, .int .u64 c]).run Tryz.prog w = .ok (.value (.tuple #[.int .u64 (addLo x y c), .int .u64 (addHi x y c)])) w := by
  rw [run_callFunc_extern Tryz.func73 (by kernel_rfl) (by kernel_rfl) (by kernel_rfl) (e := add64Entry) (by kernel_rfl), run_add64 x y c hx hy hc0 hc]
  rfl

theorem sub64_run (x y c : Int) (hx : 0 ≤ x) (hy : 0 ≤ y) (hy1 : y < 18446744073709551616) (hc0 : 0 ≤ c) (hc : c ≤ 1) (w : World) :
    (callFunc 113 #[.int .u64 x, .int .u64 y, .int .u64 c]).run Tryz.prog w = .ok (.value (.tuple #[.int .u64 (subLo x y c), .int .u64 (subHi x y c)])) w := by
  obtain ⟨X, rfl⟩ := Int.eq_ofNat_of_zero_le hx
  obtain ⟨Y, rfl⟩ := Int.eq_ofNat_of_zero_le hy
  obtain ⟨C, rfl⟩ := Int.eq_ofNat_of_zero_le hc0
  have e1 : (((X + 18446744073709551616 - Y - C) % 18446744073709551616 : Nat) : Int) = subLo X Y C := by unfold subLo; omega
  have e2 : ((if X < Y + C then 1 else 0 : Nat) : Int) = subHi X Y C := by unfold subHi; split <;> split <;> omega
  rw [run_callFunc_extern Tryz.func113 (by kernel_rfl) (by kernel_rfl) (by kernel_rfl) (e := sub64Entry) (by kernel_rfl), run_sub64 X Y C (by omega), e1, e2]
  rfl

theorem addHi_bd (x y c : Int) (hx : 0 ≤ x) (hx1 : x < 18446744073709551616) (hy : 0 ≤ y) (hy1 : y < 18446744073709551616) (hc0 : 0 ≤ c) (hc : c ≤ 1) : 0 ≤ addHi x y c ∧ addHi x y c ≤ 1 := by unfold addHi; omega
theorem subHi_bd (x y c : Int) : 0 ≤ subHi x y c ∧ subHi x y c ≤ 1 := by unfold subHi; split <;> omega

set_option maxHeartbeats 400000 in
theorem plus_any (h l h' l' : Int) (w : World) (a0 : 0 ≤ h) (b0 : 0 ≤ l) (b1 : l < 18446744073709551616) (a0' : 0 ≤ h') (b0' : 0 ≤ l') (b1' : l' < 18446744073709551616) :
    Calls Tryz.prog 43 #[.agg #[.int .u64 h, .int .u64 l], .agg #[.int .u64 h', .int .u64 l']] w fun e w' =>
      e = .returned (.agg #[.int .u64 (addLo h h' (addHi l l' 0)), .int .u64 (addLo l l' 0)]) ∧ Below w.heap.size w w' := by
  obtain ⟨c0, c1⟩ := addHi_bd l l' 0 b0 b1 b0' b1' (by omega) (by omega)
  have r1 := fun w => add64_run l l' 0 b0 b0' (by omega) (by omega) w
  have r2 := fun w => add64_run h h' (addHi l l' 0) a0 a0' c0 c1 w
  go_enter Tryz.func43, Tryz.ntmps43
  go_wp2
  exact bodyPost_ret (v := .agg #[.int .u64 (addLo h h' (addHi l l' 0)), .int .u64 (addLo l l' 0)]) (by simp [results, Tryz.results43, go_sem]) rfl ⟨rfl, (((Below.refl _ _).alloc (Nat.le_refl _) _).alloc (by simp) _).alloc (by simp; omega) _⟩

set_option maxHeartbeats 400000 in
theorem minus_any (h l h' l' : Int) (w : World) (a0 : 0 ≤ h) (b0 : 0 ≤ l) (a0' : 0 ≤ h') (a1' : h' < 18446744073709551616) (b0' : 0 ≤ l') (b1' : l' < 18446744073709551616) :
    Calls Tryz.prog 96 #[.agg #[.int .u64 h, .int .u64 l], .agg #[.int .u64 h', .int .u64 l']] w fun e w' =>
      e = .returned (.agg #[.int .u64 (subLo h h' (subHi l l' 0)), .int .u64 (subLo l l' 0)]) ∧ Below w.heap.size w w' := by
  obtain ⟨c0, c1⟩ := subHi_bd l l' 0
  have r1 := fun w => sub64_run l l' 0 b0 b0' b1' (by omega) (by omega) w
  have r2 := fun w => sub64_run h h' (subHi l l' 0) a0 a0' a1' c0 c1 w
  go_enter Tryz.func96, Tryz.ntmps96
  go_wp2
  exact bodyPost_ret (v := .agg #[.int .u64 (subLo h h' (subHi l l' 0)), .int .u64 (subLo l l' 0)]) (by simp [results, Tryz.results96, go_sem]) rfl ⟨rfl, (((Below.refl _ _).alloc (Nat.le_refl _) _).alloc (by simp) _).alloc (by simp; omega) _⟩

end Go.Proofs.YthocnlalahknjaaGreat
namespace Go.Proofs.YthocnlalahknjaaGreat
open Go.RowKit
theorem bcell {W w1 : World} (hb : Below W.heap.size W w1) : (∀ b o, b < W.heap.size → w1.cell? ⟨b, o, none⟩ = W.cell? ⟨b, o, none⟩) ∧ (∀ b o, b < W.heap.size → w1.frozen? ⟨b, o, none⟩ = W.frozen? ⟨b, o, none⟩) :=
  ⟨fun b o h => hb.cell (p := ⟨b, o, none⟩) h, fun b o h => hb.frozen (p := ⟨b, o, none⟩) h⟩

set_option maxHeartbeats 400000 in
theorem amount_yes (h l v : Int) (w : World) (hv : Hid (wrap64 l = v)) (v0 : -9223372036854775808 ≤ v) (v1 : v ≤ 9223372036854775807)
    (e1 : (hiOf v == h) = true) (e2 : (loOf v == l) = true) :
    Calls Tryz.prog 45 #[.agg #[.int .u64 h, .int .u64 l]] w fun e w' => e = .returned (.tuple #[.int .i64 v, .int .i64 0]) ∧ Below w.heap.size w w' := by
  go_enter Tryz.func45, Tryz.ntmps45
  go_wp2
  rw [hv.out]
  go_region_with ((go_at_call 44; refine (widen_any _ _ v0 v1).mono ?_; rintro e w1 ⟨rfl, hb⟩; obtain ⟨hc, hf⟩ := bcell hb))
  all_goals
    go_wp2
    go_ret2
    exact ⟨rfl, (((Below.refl _ _).alloc (Nat.le_refl _) _).drew).trans (hb.mono (by simp))⟩

set_option maxHeartbeats 400000 in
theorem amount_no (h l v : Int) (w : World) (hv : Hid (wrap64 l = v)) (v0 : -9223372036854775808 ≤ v) (v1 : v ≤ 9223372036854775807)
    (e1 : (hiOf v == h) = false) :
    Calls Tryz.prog 45 #[.agg #[.int .u64 h, .int .u64 l]] w fun e w' => e = .returned (.tuple #[.int .i64 0, .int .i64 3]) ∧ Below w.heap.size w w' := by
  go_enter Tryz.func45, Tryz.ntmps45
  go_wp2
  rw [hv.out]
  go_region_with ((go_at_call 44; refine (widen_any _ _ v0 v1).mono ?_; rintro e w1 ⟨rfl, hb⟩; obtain ⟨hc, hf⟩ := bcell hb))
  all_goals
    go_wp2
    go_ret2
    exact ⟨rfl, (((Below.refl _ _).alloc (Nat.le_refl _) _).drew).trans (hb.mono (by simp))⟩

/-- the two halves of an exact number's 128 bits -/
def wh (N : Int) : Int := (N / 18446744073709551616) % 18446744073709551616
def wl (N : Int) : Int := N % 18446744073709551616
/-- an exact number as a value of type wide -/
def wd (N : Int) : Value := .agg #[.int .u64 (wh N), .int .u64 (wl N)]
/-- an exact number as an amount and an error's number -/
def fitV (x : Int) : Int := if -9223372036854775808 ≤ x ∧ x ≤ 9223372036854775807 then x else 0
def fitE (x : Int) : Int := if -9223372036854775808 ≤ x ∧ x ≤ 9223372036854775807 then 0 else 3

theorem wh_bd (N : Int) : 0 ≤ wh N ∧ wh N < 18446744073709551616 := by unfold wh; omega
theorem wl_bd (N : Int) : 0 ≤ wl N ∧ wl N < 18446744073709551616 := by unfold wl; omega
theorem hi_wh (a : Int) (h0 : -9223372036854775808 ≤ a) (h1 : a ≤ 9223372036854775807) : hiOf a = wh a := by unfold hiOf wh; split <;> omega
theorem lo_wl (a : Int) (h0 : -9223372036854775808 ≤ a) (h1 : a ≤ 9223372036854775807) : loOf a = wl a := by unfold loOf wl; split <;> omega

theorem widen_w (a : Int) (w : World) (h0 : -9223372036854775808 ≤ a) (h1 : a ≤ 9223372036854775807) :
    Calls Tryz.prog 44 #[.int .i64 a] w fun e w' => e = .returned (wd a) ∧ Below w.heap.size w w' :=
  (widen_any a w h0 h1).mono fun e w' ⟨he, hb⟩ => ⟨by rw [he, hi_wh a h0 h1, lo_wl a h0 h1]; rfl, hb⟩

theorem plus_wl (M N : Int) : addLo (wl M) (wl N) 0 = wl (M + N) := by unfold addLo wl; omega
theorem plus_wh (M N : Int) : addLo (wh M) (wh N) (addHi (wl M) (wl N) 0) = wh (M + N) := by unfold addLo addHi wl wh; omega
theorem minus_wl (M N : Int) : subLo (wl M) (wl N) 0 = wl (M - N) := by unfold subLo wl; omega
theorem minus_wh (M N : Int) : subLo (wh M) (wh N) (subHi (wl M) (wl N) 0) = wh (M - N) := by unfold subLo subHi wl wh; split <;> omega

theorem plus_w (M N : Int) (w : World) : Calls Tryz.prog 43 #[wd M, wd N] w fun e w' => e = .returned (wd (M + N)) ∧ Below w.heap.size w w' :=
  (plus_any (wh M) (wl M) (wh N) (wl N) w (wh_bd M).1 (wl_bd M).1 (wl_bd M).2 (wh_bd N).1 (wl_bd N).1 (wl_bd N).2).mono fun e w' ⟨he, hb⟩ => ⟨by rw [he, plus_wh, plus_wl]; rfl, hb⟩
theorem minus_w (M N : Int) (w : World) : Calls Tryz.prog 96 #[wd M, wd N] w fun e w' => e = .returned (wd (M - N)) ∧ Below w.heap.size w w' :=
  (minus_any (wh M) (wl M) (wh N) (wl N) w (wh_bd M).1 (wl_bd M).1 (wh_bd N).1 (wh_bd N).2 (wl_bd N).1 (wl_bd N).2).mono fun e w' ⟨he, hb⟩ => ⟨by rw [he, minus_wh, minus_wl]; rfl, hb⟩

theorem amount_w (N : Int) (w : World) (h0 : -170141183460469231731687303715884105728 ≤ N) (h1 : N < 170141183460469231731687303715884105728) :
    Calls Tryz.prog 45 #[wd N] w fun e w' => e = .returned (.tuple #[.int .i64 (fitV N), .int .i64 (fitE N)]) ∧ Below w.heap.size w w' := by
  by_cases hf : -9223372036854775808 ≤ N ∧ N ≤ 9223372036854775807
  · have e1 : fitV N = N := by unfold fitV; rw [if_pos hf]
    have e2 : fitE N = 0 := by unfold fitE; rw [if_pos hf]
    rw [e1, e2]
    exact amount_yes (wh N) (wl N) N w (by show wrap64 (wl N) = N; unfold wl; simp only [wrap64]; omega) hf.1 hf.2 (by rw [hi_wh N hf.1 hf.2]; simp) (by rw [lo_wl N hf.1 hf.2]; simp)
  · have e1 : fitV N = 0 := by unfold fitV; rw [if_neg hf]
    have e2 : fitE N = 3 := by unfold fitE; rw [if_neg hf]
    rw [e1, e2]
    refine amount_no (wh N) (wl N) (wrap64 (wl N)) w rfl (by simp only [wrap64]; omega) (by simp only [wrap64]; omega) ?_
    rw [beq_eq_false_iff_ne]
    intro hh
    unfold hiOf wh wl at hh
    simp only [wrap64] at hh
    split at hh <;> omega
end Go.Proofs.YthocnlalahknjaaGreat
namespace Go.Proofs.YthocnlalahknjaaGreat
open Go.RowKit
set_option maxHeartbeats 400000 in
theorem sub_any (a b : Int) (w : World) (a0 : -9223372036854775808 ≤ a) (a1 : a ≤ 9223372036854775807) (b0 : -9223372036854775808 ≤ b) (b1 : b ≤ 9223372036854775807) :
    Calls Tryz.prog 71 #[.int .i64 a, .int .i64 b] w fun e w' => e = .returned (.tuple #[.int .i64 (fitV (a - b)), .int .i64 (fitE (a - b))]) ∧ Below w.heap.size w w' := by
  go_enter Tryz.func71, Tryz.ntmps71
  go_wp2_with fail
  refine (widen_w a _ a0 a1).mono ?_
  rintro e w1 ⟨rfl, hb1⟩
  go_wp2_with fail
  refine (widen_w b _ b0 b1).mono ?_
  rintro e w2 ⟨rfl, hb2⟩
  go_wp2_with fail
  refine (minus_w a b _).mono ?_
  rintro e w3 ⟨rfl, hb3⟩
  go_wp2_with fail
  refine (amount_w (a - b) _ (by omega) (by omega)).mono ?_
  rintro e w4 ⟨rfl, hb4⟩
  go_wp2_with fail
  go_ret2
  exact ⟨rfl, ((hb1.trans (hb2.mono hb1.size)).trans (hb3.mono (Nat.le_trans hb1.size hb2.size))).trans (hb4.mono (Nat.le_trans (Nat.le_trans hb1.size hb2.size) hb3.size))⟩

/-- a number without its sign -/
def absI (a : Int) : Int := if a < 0 then -a else a
theorem absI_bd (a : Int) (a0 : -9223372036854775808 ≤ a) (a1 : a ≤ 9223372036854775807) : 0 ≤ absI a ∧ absI a ≤ 9223372036854775808 := by unfold absI; split <;> omega

theorem mag_neg (a : Int) (a0 : -9223372036854775808 ≤ a) (hn : a < 0) : IntKind.u64.wrap (-IntKind.u64.wrap a) = absI a := by
  unfold absI; rw [if_pos hn, IntKind.wrap_u64, IntKind.wrap_u64]; omega
theorem mag_pos (a : Int) (hn : ¬ a < 0) : a = absI a := by unfold absI; rw [if_neg hn]
theorem ret_u64 {a b : Int} (h : a = b) : Ending.returned (.int .u64 a) = .returned (.int .u64 b) := by rw [h]
theorem ret_two {a b c d : Int} {k l : IntKind} (h : a = b) (h' : c = d) : Ending.returned (.tuple #[.int k a, .int l c]) = .returned (.tuple #[.int k b, .int l d]) := by rw [h, h']

set_option maxHeartbeats 400000 in
theorem magnitude_any (a : Int) (w : World) (a0 : -9223372036854775808 ≤ a) (a1 : a ≤ 9223372036854775807) :
    Calls Tryz.prog 81 #[.int .i64 a] w fun e w' => e = .returned (.int .u64 (absI a)) ∧ w = w' := by
  by_cases hn : a < 0
  · have h1 := Lib.hid (mag_neg a a0 hn)
    go_enter Tryz.func81, Tryz.ntmps81
    go_wp2
    go_ret
    exact ⟨ret_u64 h1.out, rfl⟩
  · have h1 := Lib.hid (mag_pos a hn)
    go_enter Tryz.func81, Tryz.ntmps81
    go_wp2
    go_ret
    exact ⟨ret_u64 h1.out, rfl⟩

theorem fit_no (x : Int) (h : x < -9223372036854775808 ∨ 9223372036854775807 < x) : 0 = fitV x ∧ 3 = fitE x := by
  unfold fitV fitE; rw [if_neg (by omega), if_neg (by omega)]; exact ⟨rfl, rfl⟩
theorem fit_yes (x : Int) (h0 : -9223372036854775808 ≤ x) (h1 : x ≤ 9223372036854775807) : x = fitV x ∧ 0 = fitE x := by
  unfold fitV fitE; rw [if_pos ⟨h0, h1⟩, if_pos ⟨h0, h1⟩]; exact ⟨rfl, rfl⟩
theorem neg_wrap (n : Int) (n0 : 0 ≤ n) (hn : n ≤ 9223372036854775808) : wrap64 (IntKind.u64.wrap (-n)) = -n := by
  simp only [wrap64, IntKind.wrap_u64]; omega
set_option maxHeartbeats 400000 in
theorem signed_pos (n : Int) (w : World) (n0 : 0 ≤ n) (n1 : n < 18446744073709551616) :
    Calls Tryz.prog 80 #[.bool false, .int .u64 n] w fun e w' => e = .returned (.tuple #[.int .i64 (fitV n), .int .i64 (fitE n)]) ∧ w = w' := by
  by_cases hn : 9223372036854775807 < n
  · have hx := Lib.hid (fit_no n (.inr hn))
    go_enter Tryz.func80, Tryz.ntmps80
    go_wp2
    go_ret2
    exact ⟨ret_two hx.out.1 hx.out.2, rfl⟩
  · have hx := Lib.hid (fit_yes n (by omega) (by omega))
    go_enter Tryz.func80, Tryz.ntmps80
    go_wp2
    go_ret2
    exact ⟨ret_two hx.out.1 hx.out.2, rfl⟩
set_option maxHeartbeats 400000 in
theorem signed_neg (n : Int) (w : World) (n0 : 0 ≤ n) (n1 : n < 18446744073709551616) :
    Calls Tryz.prog 80 #[.bool true, .int .u64 n] w fun e w' => e = .returned (.tuple #[.int .i64 (fitV (-n)), .int .i64 (fitE (-n))]) ∧ w = w' := by
  by_cases hn : 9223372036854775808 < n
  · have hx := Lib.hid (fit_no (-n) (.inl (by omega)))
    go_enter Tryz.func80, Tryz.ntmps80
    go_wp2
    go_ret2
    exact ⟨ret_two hx.out.1 hx.out.2, rfl⟩
  · have hx := Lib.hid (fit_yes (-n) (by omega) (by omega))
    have hy := Lib.hid (neg_wrap n n0 (by omega))
    go_enter Tryz.func80, Tryz.ntmps80
    go_wp2
    go_ret2
    exact ⟨ret_two (hy.out.trans hx.out.1) hx.out.2, rfl⟩

theorem and_mask (n : Int) (n0 : 0 ≤ n) (n1 : n < 18446744073709551616) : bits BinOp.and IntKind.u64 n 4294967295 = n % 4294967296 := by
  rw [u64_and n 4294967295 n0 n1 (by omega) (by omega)]
  obtain ⟨N, rfl⟩ := Int.eq_ofNat_of_zero_le n0
  have := Nat.and_two_pow_sub_one_eq_mod N 32
  simp only [Int.toNat_natCast]
  show ((N &&& 4294967295 : Nat) : Int) = _
  rw [show (4294967295 : Nat) = 2 ^ 32 - 1 from rfl, this]
  omega
set_option maxHeartbeats 400000 in
theorem halves_any (n : Int) (w : World) (n0 : 0 ≤ n) (n1 : n < 18446744073709551616) :
    Calls Tryz.prog 126 #[.int .u64 n] w fun e w' => e = .returned (.tuple #[.int .u64 (n / 4294967296), .int .u64 (n % 4294967296)]) ∧ w = w' := by
  have hx := Lib.hid (and_mask n n0 n1)
  go_enter Tryz.func126, Tryz.ntmps126
  go_wp2
  go_ret2
  exact ⟨ret_two rfl hx.out, rfl⟩

theorem up_wh (n : Int) (n0 : 0 ≤ n) (n1 : n < 18446744073709551616) : n / 4294967296 = wh (n * 4294967296) := by unfold wh; omega
theorem up_wl (n : Int) : IntKind.u64.wrap (n * 4294967296) = wl (n * 4294967296) := by unfold wl; rw [IntKind.wrap_u64]
set_option maxHeartbeats 400000 in
theorem halfUp_any (n : Int) (w : World) (n0 : 0 ≤ n) (n1 : n < 18446744073709551616) :
    Calls Tryz.prog 127 #[.int .u64 n] w fun e w' => e = .returned (wd (n * 4294967296)) ∧ Below w.heap.size w w' := by
  have hx := Lib.hid (up_wh n n0 n1)
  have hy := Lib.hid (up_wl n)
  go_enter Tryz.func127, Tryz.ntmps127
  go_wp2
  rw [hx.out, hy.out]
  exact bodyPost_ret (v := wd (n * 4294967296)) (by simp [results, Tryz.results127, go_sem, wd]) rfl ⟨rfl, (Below.refl _ _).alloc (Nat.le_refl _) _⟩

set_option maxHeartbeats 400000 in
theorem size_any (a : Int) (w : World) (a0 : -9223372036854775808 ≤ a) (a1 : a ≤ 9223372036854775807) :
    Calls Tryz.prog 62 #[.int .i64 a] w fun e w' => e = .returned (.tuple #[.int .i64 (fitV (absI a)), .int .i64 (fitE (absI a))]) ∧ w = w' := by
  obtain ⟨c0, c1⟩ := absI_bd a a0 a1
  go_enter Tryz.func62, Tryz.ntmps62
  go_wp2_with fail
  refine (magnitude_any a _ a0 a1).mono ?_
  rintro e w1 ⟨rfl, rfl⟩
  go_wp2_with fail
  refine (signed_pos _ _ c0 (by omega)).mono ?_
  rintro e w1 ⟨rfl, rfl⟩
  go_wp2_with fail
  go_ret2
  exact ⟨rfl, rfl⟩
end Go.Proofs.YthocnlalahknjaaGreat
namespace Go.Proofs.YthocnlalahknjaaGreat
open Go.RowKit
theorem mul_bd (a b : Int) (a0 : 0 ≤ a) (a1 : a ≤ 4294967295) (b0 : 0 ≤ b) (b1 : b ≤ 4294967295) : 0 ≤ a * b ∧ a * b ≤ 18446744065119617025 := by
  refine ⟨Int.mul_nonneg a0 b0, ?_⟩
  have h1 : a * b ≤ 4294967295 * b := Int.mul_le_mul_of_nonneg_right a1 b0
  omega
theorem wrap_u (a : Int) (a0 : 0 ≤ a) (a1 : a < 18446744073709551616) : IntKind.u64.wrap a = a := by rw [IntKind.wrap_u64]; omega
theorem plus_r (M N h l : Int) (w : World) (hh : h = wh N) (hl : l = wl N) :
    Calls Tryz.prog 43 #[.agg #[.int .u64 (wh M), .int .u64 (wl M)], .agg #[.int .u64 h, .int .u64 l]] w fun e w' => e = .returned (.agg #[.int .u64 (wh (M + N)), .int .u64 (wl (M + N))]) ∧ Below w.heap.size w w' := by
  subst hh; subst hl; exact plus_w M N w
def psum (p q r s : Int) : Nat → Int
  | 0 => 0
  | 1 => p
  | 2 => p + q * 4294967296
  | 3 => p + q * 4294967296 + r * 4294967296
  | _ => p + q * 4294967296 + r * 4294967296 + s * 18446744073709551616
theorem wh_small (p : Int) (p0 : 0 ≤ p) (p1 : p < 18446744073709551616) : 0 = wh p ∧ p = wl p := by unfold wh wl; omega
theorem wh_high (s : Int) (s0 : 0 ≤ s) (s1 : s < 18446744073709551616) : s = wh (s * 18446744073709551616) ∧ 0 = wl (s * 18446744073709551616) := by unfold wh wl; omega

theorem keep2 {W w3 : World} {o : Obj} {b off : Nat} {v : Value} (hb : Below (W.alloc o).heap.size (W.alloc o) w3) (hz : b < W.heap.size) (hc : W.cell? ⟨b, off, none⟩ = some v) (hd : W.frozen? ⟨b, off, none⟩ = false) :
    w3.cell? ⟨b, off, none⟩ = some v ∧ w3.frozen? ⟨b, off, none⟩ = false := by
  have h1 : Below W.heap.size W w3 := ((Below.refl _ _).alloc (Nat.le_refl _) o).trans (hb.mono (by simp))
  exact ⟨(h1.cell (p := ⟨b, off, none⟩) hz).trans hc, (h1.frozen (p := ⟨b, off, none⟩) hz).trans hd⟩
theorem idx0 (a0 a1 a2 a3 a4 a5 a6 a7 : Value) (w : World) : (Instr.index 186 (.agg #[a0, a1, a2, a3, a4, a5, a6, a7]) (.int .i64 0)).run Tryz.prog w = .ok (.agg #[a0, a1]) w := by kernel_rfl
theorem idx1 (a0 a1 a2 a3 a4 a5 a6 a7 : Value) (w : World) : (Instr.index 186 (.agg #[a0, a1, a2, a3, a4, a5, a6, a7]) (.int .i64 1)).run Tryz.prog w = .ok (.agg #[a2, a3]) w := by kernel_rfl
theorem idx2 (a0 a1 a2 a3 a4 a5 a6 a7 : Value) (w : World) : (Instr.index 186 (.agg #[a0, a1, a2, a3, a4, a5, a6, a7]) (.int .i64 2)).run Tryz.prog w = .ok (.agg #[a4, a5]) w := by kernel_rfl
theorem idx3 (a0 a1 a2 a3 a4 a5 a6 a7 : Value) (w : World) : (Instr.index 186 (.agg #[a0, a1, a2, a3, a4, a5, a6, a7]) (.int .i64 3)).run Tryz.prog w = .ok (.agg #[a6, a7]) w := by kernel_rfl
set_option maxRecDepth 100000 in
set_option maxHeartbeats 2000000 in
theorem product_parts (x y xh xl yh yl p q r s : Int) (w : World) (x0 : 0 ≤ x) (x1 : x < 18446744073709551616) (y0 : 0 ≤ y) (y1 : y < 18446744073709551616)
    (hxh : Hid (x / 4294967296 = xh)) (hxl : Hid (x % 4294967296 = xl)) (hyh : Hid (y / 4294967296 = yh)) (hyl : Hid (y % 4294967296 = yl))
    (hp : Hid (IntKind.u64.wrap (xl * yl) = p)) (hq : Hid (IntKind.u64.wrap (xl * yh) = q)) (hr : Hid (IntKind.u64.wrap (xh * yl) = r)) (hs : Hid (IntKind.u64.wrap (xh * yh) = s))
    (p0 : 0 ≤ p) (p1 : p < 18446744073709551616) (q0 : 0 ≤ q) (q1 : q < 18446744073709551616) (r0 : 0 ≤ r) (r1 : r < 18446744073709551616) (s0 : 0 ≤ s) (s1 : s < 18446744073709551616) :
    Calls Tryz.prog 122 #[.int .u64 x, .int .u64 y] w fun e w' => e = .returned (wd (p + q * 4294967296 + r * 4294967296 + s * 18446744073709551616)) ∧ Below w.heap.size w w' := by
  go_enter Tryz.func122, Tryz.ntmps122
  go_wp2_with fail
  refine (halves_any x _ x0 x1).mono ?_
  rintro e w1 ⟨rfl, rfl⟩
  rw [hxh.out, hxl.out]
  go_wp2_with fail
  refine (halves_any y _ y0 y1).mono ?_
  rintro e w1 ⟨rfl, rfl⟩
  rw [hyh.out, hyl.out]
  go_wp2_with fail
  rw [hp.out, hq.out]
  refine (halfUp_any q _ q0 q1).mono ?_
  rintro e w1 ⟨rfl, hb1⟩
  simp only [wd]
  obtain ⟨hc1, hf1⟩ := bcell hb1
  go_wp2_with fail
  rw [hr.out]
  refine (halfUp_any r _ r0 r1).mono ?_
  rintro e w2 ⟨rfl, hb2⟩
  simp only [wd]
  obtain ⟨hc2, hf2⟩ := bcell hb2
  go_wp2_with fail
  rw [hs.out]
  clear hxh hxl hyh hyl hp hq hr hs
  have hA := Lib.hid hb1
  have hB := Lib.hid hb2
  have z1 := hb1.size
  have z2 := hb2.size
  simp at z1
  have g0 : w2.cell? ⟨w.heap.size, 0, none⟩ = some (.int .u64 0) := by rw [hc2 w.heap.size 0 (by omega), hc1 w.heap.size 0 (by simp)]; go_simp
  have g1 : w2.cell? ⟨w.heap.size, 1, none⟩ = some (.int .u64 0) := by rw [hc2 w.heap.size 1 (by omega), hc1 w.heap.size 1 (by simp)]; go_simp
  have f0 : w2.frozen? ⟨w.heap.size, 0, none⟩ = false := by rw [hf2 w.heap.size 0 (by omega), hf1 w.heap.size 0 (by simp)]; go_simp
  have f1 : w2.frozen? ⟨w.heap.size, 1, none⟩ = false := by rw [hf2 w.heap.size 1 (by omega), hf1 w.heap.size 1 (by simp)]; go_simp
  clear hb1 hb2 hc1 hc2 hf1 hf2
  go_loopw [41] (fun i wr => ∃ k : Nat, k ≤ 4 ∧ i = .int .i64 k ∧ wr.cell? ⟨w2.heap.size + 1, 0, none⟩ = some (.int .u64 (wh (psum p q r s k))) ∧ wr.cell? ⟨w2.heap.size + 1, 1, none⟩ = some (.int .u64 (wl (psum p q r s k))) ∧
      wr.frozen? ⟨w2.heap.size + 1, 0, none⟩ = false ∧ wr.frozen? ⟨w2.heap.size + 1, 1, none⟩ = false ∧ w2.heap.size + 1 < wr.heap.size ∧ Below w2.heap.size w2 wr)
    (fun i _ => 4 - (intOf i).toNat)
  case atStart => exact ⟨0, by omega, rfl, by go_simp; rfl, by go_simp; rfl, by go_simp, by go_simp, by simp, ((Below.refl _ _).alloc (Nat.le_refl _) _).alloc (by simp) _⟩
  case round =>
    obtain ⟨k, hk, hi, c0, c1, d0, d1, hz, hbel0⟩ := hrel
    have hbel := Lib.hid hbel0
    clear hbel0
    rcases (by omega : k = 0 ∨ k = 1 ∨ k = 2 ∨ k = 3 ∨ k = 4) with rfl | rfl | rfl | rfl | rfl
    · replace hi : _ = Value.int .i64 0 := hi
      subst hi
      have ix := idx0
      go_wp2_with fail
      clear ix
      refine (plus_r (psum p q r s 0) (p) _ _ _ (wh_small p p0 p1).1 (wh_small p p0 p1).2).mono ?_
      rintro e w3 ⟨rfl, hb3⟩
      rw [show psum p q r s 0 + p = psum p q r s 1 from by simp only [psum] <;> omega]
      obtain ⟨c0', d0'⟩ := keep2 hb3 hz c0 d0
      obtain ⟨c1', d1'⟩ := keep2 hb3 hz c1 d1
      have hz3 := hb3.size
      simp at hz3
      have H3 := Lib.hid hb3
      clear c0 c1 d0 d1 hb3
      have hz4 : w2.heap.size + 1 < w3.heap.size := by omega
      go_wp2_with fail
      go_roundw
      case rel => exact ⟨1, by omega, rfl, by go_simp, by go_simp, by go_simp, by go_simp, by simpa using hz4, ((hbel.out.trans (((Below.refl _ _).alloc (Nat.le_refl _) _).trans (H3.out.mono (by simp)) |>.mono (by omega))).setCell (by simp) _).setCell (by simp) _⟩
      case measure => simp [intOf]
    · replace hi : _ = Value.int .i64 1 := hi
      subst hi
      have ix := idx1
      go_wp2_with fail
      clear ix
      refine (plus_r (psum p q r s 1) (q * 4294967296) _ _ _ rfl rfl).mono ?_
      rintro e w3 ⟨rfl, hb3⟩
      rw [show psum p q r s 1 + q * 4294967296 = psum p q r s 2 from by simp only [psum] <;> omega]
      obtain ⟨c0', d0'⟩ := keep2 hb3 hz c0 d0
      obtain ⟨c1', d1'⟩ := keep2 hb3 hz c1 d1
      have hz3 := hb3.size
      simp at hz3
      have H3 := Lib.hid hb3
      clear c0 c1 d0 d1 hb3
      have hz4 : w2.heap.size + 1 < w3.heap.size := by omega
      go_wp2_with fail
      go_roundw
      case rel => exact ⟨2, by omega, rfl, by go_simp, by go_simp, by go_simp, by go_simp, by simpa using hz4, ((hbel.out.trans (((Below.refl _ _).alloc (Nat.le_refl _) _).trans (H3.out.mono (by simp)) |>.mono (by omega))).setCell (by simp) _).setCell (by simp) _⟩
      case measure => simp [intOf]
    · replace hi : _ = Value.int .i64 2 := hi
      subst hi
      have ix := idx2
      go_wp2_with fail
      clear ix
      refine (plus_r (psum p q r s 2) (r * 4294967296) _ _ _ rfl rfl).mono ?_
      rintro e w3 ⟨rfl, hb3⟩
      rw [show psum p q r s 2 + r * 4294967296 = psum p q r s 3 from by simp only [psum] <;> omega]
      obtain ⟨c0', d0'⟩ := keep2 hb3 hz c0 d0
      obtain ⟨c1', d1'⟩ := keep2 hb3 hz c1 d1
      have hz3 := hb3.size
      simp at hz3
      have H3 := Lib.hid hb3
      clear c0 c1 d0 d1 hb3
      have hz4 : w2.heap.size + 1 < w3.heap.size := by omega
      go_wp2_with fail
      go_roundw
      case rel => exact ⟨3, by omega, rfl, by go_simp, by go_simp, by go_simp, by go_simp, by simpa using hz4, ((hbel.out.trans (((Below.refl _ _).alloc (Nat.le_refl _) _).trans (H3.out.mono (by simp)) |>.mono (by omega))).setCell (by simp) _).setCell (by simp) _⟩
      case measure => simp [intOf]
    · replace hi : _ = Value.int .i64 3 := hi
      subst hi
      have ix := idx3
      go_wp2_with fail
      clear ix
      refine (plus_r (psum p q r s 3) (s * 18446744073709551616) _ _ _ (wh_high s s0 s1).1 (wh_high s s0 s1).2).mono ?_
      rintro e w3 ⟨rfl, hb3⟩
      rw [show psum p q r s 3 + s * 18446744073709551616 = psum p q r s 4 from by simp only [psum] <;> omega]
      obtain ⟨c0', d0'⟩ := keep2 hb3 hz c0 d0
      obtain ⟨c1', d1'⟩ := keep2 hb3 hz c1 d1
      have hz3 := hb3.size
      simp at hz3
      have H3 := Lib.hid hb3
      clear c0 c1 d0 d1 hb3
      have hz4 : w2.heap.size + 1 < w3.heap.size := by omega
      go_wp2_with fail
      go_roundw
      case rel => exact ⟨4, by omega, rfl, by go_simp, by go_simp, by go_simp, by go_simp, by simpa using hz4, ((hbel.out.trans (((Below.refl _ _).alloc (Nat.le_refl _) _).trans (H3.out.mono (by simp)) |>.mono (by omega))).setCell (by simp) _).setCell (by simp) _⟩
      case measure => simp [intOf]
    · replace hi : _ = Value.int .i64 4 := hi
      subst hi
      have B1 : Below w.heap.size w w2 := ((Below.refl _ _).alloc (Nat.le_refl _) _).trans ((hA.out.mono (by simp)).trans (hB.out.mono (by omega)))
      have B2 := Lib.hid (B1.trans (hbel.out.mono (by omega)))
      clear B1
      obtain ⟨hx1, hx2⟩ := bcell hbel.out
      have g0' := hx1 w.heap.size 0 (by omega)
      have g1' := hx1 w.heap.size 1 (by omega)
      have f0' := hx2 w.heap.size 0 (by omega)
      have f1' := hx2 w.heap.size 1 (by omega)
      rw [g0] at g0'
      rw [g1] at g1'
      rw [f0] at f0'
      rw [f1] at f1'
      clear hx1 hx2 g0 g1 f0 f1
      go_wp2_with fail
      exact bodyPost_ret (v := wd (psum p q r s 4)) (by simp [results, Tryz.results122, go_sem, wd, g0', g1']) rfl ⟨rfl, (B2.out.setCell (Nat.le_refl _) _).setCell (Nat.le_refl _) _⟩

theorem split_mul (x y xh xl yh yl : Int) (hx : x = xh * 4294967296 + xl) (hy : y = yh * 4294967296 + yl) :
    xl * yl + xl * yh * 4294967296 + xh * yl * 4294967296 + xh * yh * 18446744073709551616 = x * y := by
  have e : (xh * 4294967296 + xl) * (yh * 4294967296 + yl) = (xh * yh) * 18446744073709551616 + (xh * yl) * 4294967296 + (xl * yh) * 4294967296 + xl * yl := by
    rw [Int.add_mul, Int.mul_add, Int.mul_add]
    have e1 : xh * 4294967296 * (yh * 4294967296) = xh * yh * 18446744073709551616 := by
      rw [Int.mul_assoc, Int.mul_left_comm 4294967296 yh, ← Int.mul_assoc]; rfl
    have e2 : xh * 4294967296 * yl = xh * yl * 4294967296 := by rw [Int.mul_assoc, Int.mul_comm 4294967296 yl, ← Int.mul_assoc]
    have e3 : xl * (yh * 4294967296) = xl * yh * 4294967296 := by rw [← Int.mul_assoc]
    rw [e1, e2, e3]
    omega
  rw [hx, hy, e]
  omega
theorem product_any (x y : Int) (w : World) (x0 : 0 ≤ x) (x1 : x < 18446744073709551616) (y0 : 0 ≤ y) (y1 : y < 18446744073709551616) :
    Calls Tryz.prog 122 #[.int .u64 x, .int .u64 y] w fun e w' => e = .returned (wd (x * y)) ∧ Below w.heap.size w w' := by
  have b1 := mul_bd (x % 4294967296) (y % 4294967296) (by omega) (by omega) (by omega) (by omega)
  have b2 := mul_bd (x % 4294967296) (y / 4294967296) (by omega) (by omega) (by omega) (by omega)
  have b3 := mul_bd (x / 4294967296) (y % 4294967296) (by omega) (by omega) (by omega) (by omega)
  have b4 := mul_bd (x / 4294967296) (y / 4294967296) (by omega) (by omega) (by omega) (by omega)
  have key := split_mul x y (x / 4294967296) (x % 4294967296) (y / 4294967296) (y % 4294967296) (by omega) (by omega)
  rw [← key]
  generalize hp : x % 4294967296 * (y % 4294967296) = p at *
  generalize hq : x % 4294967296 * (y / 4294967296) = q at *
  generalize hr : x / 4294967296 * (y % 4294967296) = r at *
  generalize hs : x / 4294967296 * (y / 4294967296) = s at *
  exact product_parts x y _ _ _ _ p q r s w x0 x1 y0 y1 rfl rfl rfl rfl
    (by show IntKind.u64.wrap _ = p; rw [hp]; exact wrap_u p (by omega) (by omega)) (by show IntKind.u64.wrap _ = q; rw [hq]; exact wrap_u q (by omega) (by omega))
    (by show IntKind.u64.wrap _ = r; rw [hr]; exact wrap_u r (by omega) (by omega)) (by show IntKind.u64.wrap _ = s; rw [hs]; exact wrap_u s (by omega) (by omega))
    (by omega) (by omega) (by omega) (by omega) (by omega) (by omega) (by omega) (by omega)
end Go.Proofs.YthocnlalahknjaaGreat
