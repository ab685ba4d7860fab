/- The contracts of money's numbers of 128 bits (widen, plus, minus, amount), stated of the exact number that they stand for. -/
import Derived.Test.YtghebijikdnikaaA1
import Derived.Deep.RegionWith
namespace Go.Proofs.Ytghebijikdnikaa
open Go.RowKit
theorem bcell {W w1 : World} (hb : Below W.heap.size W w1) : (∀ b o, b < W.heap.size → w1.cell? ⟨b, o, none⟩ = W.cell? ⟨b, o, none⟩) ∧ (∀ b o, b < W.heap.size → w1.frozen? ⟨b, o, none⟩ = W.frozen? ⟨b, o, none⟩) :=
  ⟨fun b o h => hb.cell (p := ⟨b, o, none⟩) h, fun b o h => hb.frozen (p := ⟨b, o, none⟩) h⟩

set_option maxHeartbeats 400000 in
theorem amount_yes (h l v : Int) (w : World) (hv : Hid (wrap64 l = v)) (v0 : -9223372036854775808 ≤ v) (v1 : v ≤ 9223372036854775807)
    (e1 : (hiOf v == h) = true) (e2 : (loOf v == l) = true) :
    Calls Try.prog 42 #[.agg #[.int .u64 h, .int .u64 l]] w fun e w' => e = .returned (.tuple #[.int .i64 v, .int .i64 0]) ∧ Below w.heap.size w w' := by
  go_enter Try.func42, Try.ntmps42
  go_wp2
  rw [hv.out]
  go_region_with ((go_at_call 41; refine (widen_any _ _ v0 v1).mono ?_; rintro e w1 ⟨rfl, hb⟩; obtain ⟨hc, hf⟩ := bcell hb))
  all_goals
    go_wp2
    go_ret2
    exact ⟨rfl, (((Below.refl _ _).alloc (Nat.le_refl _) _).drew).trans (hb.mono (by simp))⟩

set_option maxHeartbeats 400000 in
theorem amount_no (h l v : Int) (w : World) (hv : Hid (wrap64 l = v)) (v0 : -9223372036854775808 ≤ v) (v1 : v ≤ 9223372036854775807)
    (e1 : (hiOf v == h) = false) :
    Calls Try.prog 42 #[.agg #[.int .u64 h, .int .u64 l]] w fun e w' => e = .returned (.tuple #[.int .i64 0, .int .i64 3]) ∧ Below w.heap.size w w' := by
  go_enter Try.func42, Try.ntmps42
  go_wp2
  rw [hv.out]
  go_region_with ((go_at_call 41; refine (widen_any _ _ v0 v1).mono ?_; rintro e w1 ⟨rfl, hb⟩; obtain ⟨hc, hf⟩ := bcell hb))
  all_goals
    go_wp2
    go_ret2
    exact ⟨rfl, (((Below.refl _ _).alloc (Nat.le_refl _) _).drew).trans (hb.mono (by simp))⟩

/-- the two halves of an exact number's 128 bits -/
def wh (N : Int) : Int := (N / 18446744073709551616) % 18446744073709551616
def wl (N : Int) : Int := N % 18446744073709551616
/-- an exact number as a value of type wide -/
def wd (N : Int) : Value := .agg #[.int .u64 (wh N), .int .u64 (wl N)]
/-- an exact number as an amount and an error's number -/
def fitV (x : Int) : Int := if -9223372036854775808 ≤ x ∧ x ≤ 9223372036854775807 then x else 0
def fitE (x : Int) : Int := if -9223372036854775808 ≤ x ∧ x ≤ 9223372036854775807 then 0 else 3

theorem wh_bd (N : Int) : 0 ≤ wh N ∧ wh N < 18446744073709551616 := by unfold wh; omega
theorem wl_bd (N : Int) : 0 ≤ wl N ∧ wl N < 18446744073709551616 := by unfold wl; omega
theorem hi_wh (a : Int) (h0 : -9223372036854775808 ≤ a) (h1 : a ≤ 9223372036854775807) : hiOf a = wh a := by unfold hiOf wh; split <;> omega
theorem lo_wl (a : Int) (h0 : -9223372036854775808 ≤ a) (h1 : a ≤ 9223372036854775807) : loOf a = wl a := by unfold loOf wl; split <;> omega

theorem widen_w (a : Int) (w : World) (h0 : -9223372036854775808 ≤ a) (h1 : a ≤ 9223372036854775807) :
    Calls Try.prog 41 #[.int .i64 a] w fun e w' => e = .returned (wd a) ∧ Below w.heap.size w w' :=
  (widen_any a w h0 h1).mono fun e w' ⟨he, hb⟩ => ⟨by rw [he, hi_wh a h0 h1, lo_wl a h0 h1]; rfl, hb⟩

theorem plus_wl (M N : Int) : addLo (wl M) (wl N) 0 = wl (M + N) := by unfold addLo wl; omega
theorem plus_wh (M N : Int) : addLo (wh M) (wh N) (addHi (wl M) (wl N) 0) = wh (M + N) := by unfold addLo addHi wl wh; omega
theorem minus_wl (M N : Int) : subLo (wl M) (wl N) 0 = wl (M - N) := by unfold subLo wl; omega
theorem minus_wh (M N : Int) : subLo (wh M) (wh N) (subHi (wl M) (wl N) 0) = wh (M - N) := by unfold subLo subHi wl wh; split <;> omega

theorem plus_w (M N : Int) (w : World) : Calls Try.prog 40 #[wd M, wd N] w fun e w' => e = .returned (wd (M + N)) ∧ Below w.heap.size w w' :=
  (plus_any (wh M) (wl M) (wh N) (wl N) w (wh_bd M).1 (wl_bd M).1 (wl_bd M).2 (wh_bd N).1 (wl_bd N).1 (wl_bd N).2).mono fun e w' ⟨he, hb⟩ => ⟨by rw [he, plus_wh, plus_wl]; rfl, hb⟩
theorem amount_w (N : Int) (w : World) (h0 : -170141183460469231731687303715884105728 ≤ N) (h1 : N < 170141183460469231731687303715884105728) :
    Calls Try.prog 42 #[wd N] w fun e w' => e = .returned (.tuple #[.int .i64 (fitV N), .int .i64 (fitE N)]) ∧ Below w.heap.size w w' := by
  by_cases hf : -9223372036854775808 ≤ N ∧ N ≤ 9223372036854775807
  · have e1 : fitV N = N := by unfold fitV; rw [if_pos hf]
    have e2 : fitE N = 0 := by unfold fitE; rw [if_pos hf]
    rw [e1, e2]
    exact amount_yes (wh N) (wl N) N w (by show wrap64 (wl N) = N; unfold wl; simp only [wrap64]; omega) hf.1 hf.2 (by rw [hi_wh N hf.1 hf.2]; simp) (by rw [lo_wl N hf.1 hf.2]; simp)
  · have e1 : fitV N = 0 := by unfold fitV; rw [if_neg hf]
    have e2 : fitE N = 3 := by unfold fitE; rw [if_neg hf]
    rw [e1, e2]
    refine amount_no (wh N) (wl N) (wrap64 (wl N)) w rfl (by simp only [wrap64]; omega) (by simp only [wrap64]; omega) ?_
    rw [beq_eq_false_iff_ne]
    intro hh
    unfold hiOf wh wl at hh
    simp only [wrap64] at hh
    split at hh <;> omega
end Go.Proofs.Ytghebijikdnikaa
