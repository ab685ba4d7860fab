/- The contracts of the reference's number and could. -/
import Derived.Test.YtflbggehgjllcaaDoorRL
import Derived.Test.YtflbggehgjllcaaDoorRJ
import Derived.Test.YtflbggehgjllcaaDoorDP
namespace Go.Proofs.YtflbggehgjllcaaDoor
open Go.RowKit
set_option linter.unusedVariables false

/-- the number that some bytes tell -/
def numL (l : List UInt8) (i k : Nat) : Nat := vls ((l.drop i).take k)
theorem numL_succ (l : List UInt8) (i q : Nat) (h : i + q < l.length) : numL l i (q + 1) = numL l i q * 256 + (l[i + q]).toNat := by
  unfold numL
  have hd : q < (l.drop i).length := by rw [List.length_drop]; omega
  rw [vls_take_succ _ _ hd, List.getElem_drop]
theorem numL_lt (l : List UInt8) (i k : Nat) (h : i + k ≤ l.length) : numL l i k < 256 ^ k := by
  have := vls_lt ((l.drop i).take k)
  rwa [List.length_take, List.length_drop, Nat.min_eq_left (by omega)] at this
theorem u64_in {n : Int} (h0 : 0 ≤ n) (h : n < 18446744073709551616) : IntKind.u64.wrap n = n := by
  unfold IntKind.wrap
  simp [IntKind.bits, IntKind.signed]
  omega
theorem i64_toI {n : Nat} (h : n < 18446744073709551616) : IntKind.i64.wrap (n : Int) = toI n := by
  unfold IntKind.wrap toI
  simp [IntKind.bits, IntKind.signed]
  split <;> split <;> omega
set_option maxHeartbeats 2000000 in
set_option maxRecDepth 100000 in
theorem number_any (s : ByteArray) (i k : Nat) (w : World) (hk : k ≤ 8) (hs : i + k ≤ s.size) (hsz : s.size ≤ 1000000) :
    Calls Tryd.prog 42 #[.string s, .int .i64 (i : Int), .int .i64 (k : Int)] w fun e w' => e = .returned (.int .i64 (toI (numL (bl s) i k))) ∧ w = w' := by
  have hbl := bl_length s
  obtain ⟨R, hR⟩ : ∃ R, R = toI (numL (bl s) i k) := ⟨_, rfl⟩
  rw [← hR]
  replace hR := Lib.hid hR
  have hik : IntKind.i64.wrap ((i : Int) + (k : Int)) = (i : Int) + (k : Int) := by rw [IntKind.wrap_i64] <;> omega
  go_enter Tryd.func42, Tryd.ntmps42
  go_wp2_with fail
  go_loopw [7, 8] (fun n j wr => ∃ q : Nat, q ≤ k ∧ j = .int .i64 ((i + q : Nat) : Int) ∧ n = .int .u64 ((numL (bl s) i q : Nat) : Int) ∧ wr = w) (fun _ j _ => i + k - (intOf j).toNat)
  case atStart => exact ⟨0, by omega, by simp, by unfold numL; simp [vls], rfl⟩
  case round =>
    obtain ⟨q, hq, rfl, rfl, rfl⟩ := hrel
    by_cases hqk : q < k
    · have kz : (((i + q : Nat) : Int)) < (i : Int) + (k : Int) := by omega
      have hqs : i + q < s.size := by omega
      have hqz : (((i + q : Nat) : Int)) < (s.size : Int) := by omega
      have hq0 : (0 : Int) ≤ (((i + q : Nat) : Int)) := by omega
      have hsu := numL_succ (bl s) i q (by omega)
      have hb : (bl s)[i + q]'(by omega) = s[i + q] := rfl
      rw [hb] at hsu
      have hlt := numL_lt (bl s) i q (by omega)
      have h7 : (256 : Nat) ^ q ≤ 256 ^ 7 := Nat.pow_le_pow_right (by omega) (by omega)
      have h77 : (256 : Nat) ^ 7 = 72057594037927936 := by decide
      have hb2 := s[i + q].toNat_lt
      generalize numL (bl s) i q = m at *
      have hw1 : IntKind.u64.wrap ((m : Int) * 256) = (m : Int) * 256 := u64_in (by omega) (by omega)
      have hw2 : IntKind.u64.wrap ((m : Int) * 256 + (s[i + q].toNat : Int)) = ((m * 256 + s[i + q].toNat : Nat) : Int) := by rw [u64_in (by omega) (by omega)]; omega
      rw [← hsu] at hw2
      clear hsu hlt h7 h77 hb
      generalize hj : i + q = jj at *
      replace hj := Lib.hid hj
      go_wp2_with fail
      go_roundw
      case rel => exact ⟨q + 1, by omega, by have := hj.out; go_num, by first | rfl | trivial, by first | rfl | trivial⟩
      case measure => have := hj.out; simp [intOf]; omega
    · obtain rfl : q = k := by omega
      have kz : ¬ (((i + q : Nat) : Int)) < (i : Int) + (q : Int) := by omega
      have hlt := numL_lt (bl s) i q (by omega)
      have h8 : (256 : Nat) ^ q ≤ 256 ^ 8 := Nat.pow_le_pow_right (by omega) hk
      have h88 : (256 : Nat) ^ 8 = 18446744073709551616 := by decide
      have hto := i64_toI (n := numL (bl s) i q) (by omega)
      rw [← hR.out] at hto
      clear hlt h8 h88
      generalize numL (bl s) i q = m at *
      generalize hj : i + q = jj at *
      replace hj := Lib.hid hj
      go_wp2_with fail
      go_ret
      exact ⟨rfl, rfl⟩
/-- so it may stand, as the reference asks -/
def couldB (st : Int) (byA byB : Bool) (nth : Int) : Bool :=
  if st = 1 then !byA && !byB && decide (nth = 0) else if st = 2 ∨ st = 3 then !(byA && byB) && decide (0 < nth) else decide (st = 4) && (decide (0 < nth) || (!byA && !byB))
set_option maxHeartbeats 2000000 in
set_option maxRecDepth 100000 in
theorem could_any (d : Dl) (st : Int) (byA byB : Bool) (nth : Int) (w : World) : Calls Tryd.prog 44 #[.agg #[.int .i64 d.id, .int .i64 d.a, .int .i64 d.b, .int .i64 d.sc, .int .i64 d.bc, .int .i64 d.s, .int .i64 d.t, .int .i64 st, .bool byA, .bool byB, .int .i64 nth]] w fun e w' => e = .returned (.bool (couldB st byA byB nth)) ∧ Below w.heap.size w w' := by
  have hbx := (Below.refl w.heap.size w).alloc (Nat.le_refl _) (.cells #[.int .i64 d.id, .int .i64 d.a, .int .i64 d.b, .int .i64 d.sc, .int .i64 d.bc, .int .i64 d.s, .int .i64 d.t, .int .i64 st, .bool byA, .bool byB, .int .i64 nth] 61)
  obtain ⟨R, hR⟩ : ∃ R, R = couldB st byA byB nth := ⟨_, rfl⟩
  rw [← hR]
  unfold couldB at hR
  replace hbx := Lib.hid hbx
  by_cases e1 : st = 1
  · rw [if_pos e1] at hR
    subst e1
    cases byA <;> cases byB <;> by_cases hn : nth = 0 <;> simp [hn] at hR <;> subst hR <;> (try have hn2 : (nth == 0) = false := by simpa using hn) <;> (try subst hn) <;> (go_enter Tryd.func44, Tryd.ntmps44; go_wp2_with fail; go_ret; exact ⟨rfl, hbx.out⟩)
  rw [if_neg e1] at hR
  have q1 : (st == 1) = false := by simpa using e1
  by_cases e2 : st = 2
  · rw [if_pos (.inl e2)] at hR
    subst e2
    cases byA <;> cases byB <;> by_cases hn : 0 < nth <;> simp [hn] at hR <;> subst hR <;> (go_enter Tryd.func44, Tryd.ntmps44; go_wp2_with fail; go_ret; exact ⟨rfl, hbx.out⟩)
  have q2 : (st == 2) = false := by simpa using e2
  by_cases e3 : st = 3
  · rw [if_pos (.inr e3)] at hR
    subst e3
    cases byA <;> cases byB <;> by_cases hn : 0 < nth <;> simp [hn] at hR <;> subst hR <;> (go_enter Tryd.func44, Tryd.ntmps44; go_wp2_with fail; go_ret; exact ⟨rfl, hbx.out⟩)
  have q3 : (st == 3) = false := by simpa using e3
  rw [if_neg (by rintro (h | h); exact e2 h; exact e3 h)] at hR
  by_cases e4 : st = 4
  · subst e4
    cases byA <;> cases byB <;> by_cases hn : 0 < nth <;> simp [hn] at hR <;> subst hR <;> (go_enter Tryd.func44, Tryd.ntmps44; go_wp2_with fail; go_ret; exact ⟨rfl, hbx.out⟩)
  · have q4 : (st == 4) = false := by simpa using e4
    simp [e4] at hR
    subst hR
    replace e1 := Lib.hid e1
    replace e2 := Lib.hid e2
    replace e3 := Lib.hid e3
    replace e4 := Lib.hid e4
    go_enter Tryd.func44, Tryd.ntmps44
    go_wp2_with fail
    go_ret
    exact ⟨rfl, hbx.out⟩
end Go.Proofs.YtflbggehgjllcaaDoor
