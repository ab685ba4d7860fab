/- The contract of the reference's Read: what is refused ahead of the entries. -/
import Derived.Test.YtflbggehgjllcaaDoorUA
import Derived.Test.YtflbggehgjllcaaDoorUB
import Derived.Test.YtflbggehgjllcaaDoorRN
namespace Go.Proofs.YtflbggehgjllcaaDoor
open Go.RowKit
set_option linter.unusedVariables false
/-- what the reference's Read leaves -/
structure RdR (w : World) (r : Option Bk) (e : Ending) (w' : World) : Prop where
  bl : Below w.heap.size w w'
  no : r = none → e = .returned (.tuple #[.pointer none, .int .i64 2])
  yes : ∀ b, r = some b → ∃ rb, e = .returned (.tuple #[.pointer (some ⟨rb, 0, none⟩), .int .i64 0]) ∧ RB (fun j => w.heap.size ≤ j) w' rb b ∧ w.heap.size ≤ rb
theorem could_may {x : En} (h0 : 0 ≤ x.ask) (h3 : x.ask ≤ 3) (hn : 0 ≤ x.nth) : couldB x.st x.byA x.byB x.nth = x.may := by
  obtain ⟨d, st, ask, nth⟩ := x
  dsimp only at h0 h3 hn
  have h : ask = 0 ∨ ask = 1 ∨ ask = 2 ∨ ask = 3 := by omega
  unfold couldB En.may En.byA En.byB
  dsimp only
  by_cases e1 : st = 1
  · rw [if_pos e1, if_pos e1]
    rcases h with rfl | rfl | rfl | rfl <;> by_cases hz : nth = 0 <;> simp [hz] <;> omega
  · rw [if_neg e1, if_neg e1]
    by_cases e2 : st = 2 ∨ st = 3
    · rw [if_pos e2, if_pos e2]
      rcases h with rfl | rfl | rfl | rfl <;> simp
    · rw [if_neg e2, if_neg e2]
      by_cases e4 : st = 4
      · rw [if_pos e4]
        rcases h with rfl | rfl | rfl | rfl <;> simp [e4]
      · rw [if_neg e4]
        simp [e4]
theorem fld_num (l : List UInt8) (i k : Nat) : fld (l.drop i) k = toI (numL l (i + off k) (sz k)) := by
  unfold fld numL
  rw [List.drop_drop]
theorem toI_small {n : Nat} (h : n < 9223372036854775808) : toI n = (n : Int) := by unfold toI; rw [if_pos h]
set_option maxHeartbeats 4000000 in
set_option maxRecDepth 100000 in
theorem rread_early (s : ByteArray) (mem cur : Int) (w : World) (hsz : s.size ≤ 100000) (h : newR mem cur = false ∨ (bl s).length < 2 ∨ (200 < vls ((bl s).take 2) ∨ (bl s).length ≠ 2 + vls ((bl s).take 2) * 28)) :
    Calls Tryd.prog 17 #[.string s, .int .i64 mem, .int .i64 cur] w (RdR w (readB (bl s) mem cur)) := by
  have e : readB (bl s) mem cur = none := by
    unfold readB
    by_cases h1 : newR mem cur = false ∨ (bl s).length < 2
    · rw [if_pos h1]
    · rw [if_neg h1, if_pos]
      rcases h with h | h | h
      · exact absurd (.inl h) h1
      · exact absurd (.inr h) h1
      · exact h
  rw [e]
  rcases hn : newR mem cur with _ | _
  · have c := rnew_no mem cur w hn
    clear h e hn
    go_enter Tryd.func17, Tryd.ntmps17
    go_wp2_with (go_at_call 9; (with_reducible refine c.mono ?_); rintro e w' ⟨rfl, rfl⟩)
    go_ret2
    exact ⟨Below.refl _ _, fun _ => rfl, fun b e => by cases e⟩
  · have c := rnew_yes (fun _ => True) mem cur w hn (fun _ _ => trivial)
    have hbl := bl_length s
    by_cases h2 : (bl s).length < 2
    · have hz : (s.size : Int) < 2 := by omega
      clear h e hn
      replace h2 := Lib.hid h2
      go_enter Tryd.func17, Tryd.ntmps17
      go_wp2_with (go_at_call 9; (with_reducible refine c.mono ?_); rintro e w' ⟨gb, rfl, hP, hb, hgb⟩)
      go_ret2
      exact ⟨hb, fun _ => rfl, fun b e => by cases e⟩
    · have hz : ¬ (s.size : Int) < 2 := by omega
      have hbad := (h.resolve_left (by rw [hn]; simp)).resolve_left h2
      have cn : ∀ W, Calls Tryd.prog 42 #[.string s, .int .i64 0, .int .i64 2] W fun e w' => e = .returned (.int .i64 (toI (numL (bl s) 0 2))) ∧ W = w' := fun W => number_any s 0 2 W (by omega) (by omega) (by omega)
      have hlt := numL_lt (bl s) 0 2 (by omega)
      have h22 : (256 : Nat) ^ 2 = 65536 := by decide
      have hnv : vls ((bl s).take 2) = numL (bl s) 0 2 := by unfold numL; rw [List.drop_zero]
      rw [hnv, hbl] at hbad
      rw [toI_small (by omega)] at cn
      generalize numL (bl s) 0 2 = m at *
      clear h e hn h2 hnv
      have m0 : (0 : Int) ≤ (m : Int) := by omega
      have m1 : (m : Int) ≤ 65535 := by omega
      replace cn := Lib.hid cn
      clear hlt h22
      by_cases hm : 200 < m
      · have hmz : (200 : Int) < (m : Int) := by omega
        clear hbad
        go_enter Tryd.func17, Tryd.ntmps17
        go_wp2_with (first | (go_at_call 9; (with_reducible refine c.mono ?_); rintro e w' ⟨gb, rfl, hP, hb, hgb⟩; replace hP := Lib.hid hP; replace hb := Lib.hid hb) | (go_at_call 42; (with_reducible refine (cn.out _).mono ?_); rintro e w2 ⟨rfl, rfl⟩))
        go_ret2
        exact ⟨hb.out, fun _ => rfl, fun b e => by cases e⟩
      · have hmz : ¬ (200 : Int) < (m : Int) := by omega
        have w1 : IntKind.i64.wrap (28 * (m : Int)) = 28 * (m : Int) := by rw [IntKind.wrap_i64] <;> omega
        have w2 : IntKind.i64.wrap (2 + 28 * (m : Int)) = 2 + 28 * (m : Int) := by rw [IntKind.wrap_i64] <;> omega
        have hne : ((s.size : Int) != 2 + 28 * (m : Int)) = true := by simp; omega
        clear hbad
        go_enter Tryd.func17, Tryd.ntmps17
        go_wp2_with (first | (go_at_call 9; (with_reducible refine c.mono ?_); rintro e w' ⟨gb, rfl, hP, hb, hgb⟩; replace hP := Lib.hid hP; replace hb := Lib.hid hb) | (go_at_call 42; (with_reducible refine (cn.out _).mono ?_); rintro e w2 ⟨rfl, rfl⟩))
        go_ret2
        exact ⟨hb.out, fun _ => rfl, fun b e => by cases e⟩
end Go.Proofs.YtflbggehgjllcaaDoor
