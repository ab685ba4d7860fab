/- The contract of split's Shares. -/
import Derived.Test.YtdbjfginigekbaaS3
namespace Go.Proofs.Ytdbjfginigekbaa
open Go.RowKit
set_option linter.unusedVariables false

/-- the error that Shares tells -/
def shE (T : Int) (zs : List Int) : Int := if chk T zs ≠ 0 then chk T zs else if 9223372036854775807 < sumL zs then 3 else if sumL zs = 0 then 1 else 0

/-- what Shares hands back -/
def ShOut (T : Int) (zs : List Int) (w w' : World) (e : Ending) : Prop :=
  (shE T zs ≠ 0 ∧ e = .returned (.tuple #[.slice none 0 0, .int .i64 (shE T zs)])) ∨
  (shE T zs = 0 ∧ ∃ g, e = .returned (.tuple #[.slice (some ⟨g, 0, none⟩) zs.length zs.length, .int .i64 0]) ∧ w.heap.size ≤ g ∧ IRow 2 w' g (shares T zs))

theorem chk_zero {T : Int} {zs : List Int} (h : chk T zs = 0) : zs.length ≤ 64 ∧ 0 ≤ T ∧ ∀ z ∈ zs, 0 ≤ z := by
  unfold chk at h
  by_cases h1 : 64 < zs.length
  · rw [if_pos h1] at h; omega
  · rw [if_neg h1] at h
    by_cases h2 : T < 0
    · rw [if_pos h2] at h; omega
    · rw [if_neg h2] at h
      by_cases h3 : ∃ z ∈ zs, z < 0
      · rw [if_pos h3] at h; omega
      · exact ⟨by omega, by omega, fun z hz => by
          by_cases hn : z < 0
          · exact absurd ⟨z, hz, hn⟩ h3
          · omega⟩

set_option maxHeartbeats 1000000 in
set_option maxRecDepth 100000 in
theorem shares_err1 (T : Int) (p : Option Addr) (len cap : Nat) (zs : List Int) (w : World) (hT : Amt T) (hs : Seq64 w p len zs) (hc : chk T zs ≠ 0) :
    Calls Try.prog 8 #[.int .i64 T, .slice p len cap] w fun e w' => w' = w ∧ e = .returned (.tuple #[.slice none 0 0, .int .i64 (chk T zs)]) := by
  have hcon := check_any T p len cap zs w hT hs
  generalize chk T zs = c at *
  clear hs hT
  go_enter Try.func8, Try.ntmps8
  go_wp2_with (first | (go_at_call 18; refine hcon.mono ?_; rintro e w' ⟨rfl, rfl⟩))
  go_ret2
  exact ⟨rfl, rfl⟩

set_option maxHeartbeats 1000000 in
set_option maxRecDepth 100000 in
theorem shares_err2 (T : Int) (p : Option Addr) (len cap : Nat) (zs : List Int) (w : World) (hT : Amt T) (hs : Seq64 w p len zs) (hc : chk T zs = 0) (hS : 9223372036854775807 < sumL zs) :
    Calls Try.prog 8 #[.int .i64 T, .slice p len cap] w fun e w' => Below w.heap.size w w' ∧ e = .returned (.tuple #[.slice none 0 0, .int .i64 3]) := by
  have hcon := check_any T p len cap zs w hT hs
  have hsum := sum_any p len cap zs w hs
  rw [← (fit_no (sumL zs) (Or.inr hS)).1, ← (fit_no (sumL zs) (Or.inr hS)).2] at hsum
  rw [hc] at hcon
  clear hs hT hc hS
  go_enter Try.func8, Try.ntmps8
  go_wp2_with (first | (go_at_call 18; refine hcon.mono ?_; rintro e w' ⟨rfl, rfl⟩) | (go_at_call 15; refine hsum.mono ?_; rintro e w' ⟨rfl, hb⟩))
  go_ret2
  exact ⟨hb, rfl⟩

set_option maxHeartbeats 1000000 in
set_option maxRecDepth 100000 in
theorem shares_err3 (T : Int) (p : Option Addr) (len cap : Nat) (zs : List Int) (w : World) (hT : Amt T) (hs : Seq64 w p len zs) (hc : chk T zs = 0) (hS : sumL zs = 0) :
    Calls Try.prog 8 #[.int .i64 T, .slice p len cap] w fun e w' => Below w.heap.size w w' ∧ e = .returned (.tuple #[.slice none 0 0, .int .i64 1]) := by
  have hcon := check_any T p len cap zs w hT hs
  have hsum := sum_any p len cap zs w hs
  rw [hS, ← (fit_yes 0 (by omega) (by omega)).1, ← (fit_yes 0 (by omega) (by omega)).2] at hsum
  rw [hc] at hcon
  clear hs hT hc hS
  go_enter Try.func8, Try.ntmps8
  go_wp2_with (first | (go_at_call 18; refine hcon.mono ?_; rintro e w' ⟨rfl, rfl⟩) | (go_at_call 15; refine hsum.mono ?_; rintro e w' ⟨rfl, hb⟩))
  go_ret2
  exact ⟨hb, rfl⟩

/-- n places, k of them laid by f -/
def laidBy (f : Nat → Int) (n k : Nat) : List Int := (List.range n).map fun i => if i < k then f i else 0
theorem laidBy_zero (f : Nat → Int) (n : Nat) : laidBy f n 0 = List.replicate n 0 := by
  apply List.ext_getElem
  · simp [laidBy]
  · intro i h1 h2
    simp [laidBy]
theorem laidBy_length (f : Nat → Int) (n k : Nat) : (laidBy f n k).length = n := by simp [laidBy]
theorem laidBy_set (f : Nat → Int) (n k : Nat) (h : k < n) : (laidBy f n k).set k (f k) = laidBy f n (k + 1) := by
  apply List.ext_getElem
  · simp [laidBy]
  · intro i h1 h2
    rw [List.getElem_set]
    simp only [laidBy, List.getElem_map, List.getElem_range]
    by_cases hik : k = i
    · subst hik; simp
    · rw [if_neg hik]
      by_cases h3 : i < k
      · rw [if_pos h3, if_pos (by omega)]
      · rw [if_neg h3, if_neg (by omega)]
theorem laidBy_all (l : List Int) : laidBy (fun i => l.getD i 0) l.length l.length = l := by
  apply List.ext_getElem
  · simp [laidBy]
  · intro i h1 h2
    simp only [laidBy, List.getElem_map, List.getElem_range]
    rw [if_pos h2, List.getD_eq_getElem?_getD, List.getElem?_eq_getElem h2]
    rfl

end Go.Proofs.Ytdbjfginigekbaa
