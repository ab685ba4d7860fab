/- Are nets more than are looked at? -/
import Derived.Test.YthocnlalahknjaaGreatQWE
namespace Go.Proofs.YthocnlalahknjaaGreat.Dd
open Go.RowKit Go.Maps
set_option linter.unusedVariables false
def largeN (rows : List (List Int)) : Bool := rows.any (fun r => decide (20 < r.length)) || decide (40 < rows.length)
set_option maxHeartbeats 2000000 in
set_option maxRecDepth 100000 in
theorem large_any (v : Value) (rows : List (List Int)) (w : World) (h : NSeq w v rows) (hlen : rows.length ≤ 4611686018427387904) (hw : ∀ r ∈ rows, r.length ≤ 4611686018427387904) :
    Calls Tryz.prog 12 #[v] w fun e w' => e = .returned (.bool (largeN rows)) ∧ w' = w := by
  obtain ⟨a, cap, rfl, hrd⟩ := h
  obtain ⟨R, hR⟩ : ∃ R, R = largeN rows := ⟨_, rfl⟩
  rw [← hR]
  unfold largeN at hR
  obtain ⟨n, hn⟩ : ∃ n, n = rows.length := ⟨_, rfl⟩
  rw [← hn] at hlen hR ⊢
  replace hrd := Lib.hid hrd
  replace hn := Lib.hid hn
  replace hw := Lib.hid hw
  have hyes : Hid (∀ k (hk : k < rows.length), 20 < (rows[k]).length → R = true) := Lib.hid fun k hk hh => by
    rw [hR, List.any_eq_true.2 ⟨rows[k], List.getElem_mem hk, decide_eq_true hh⟩]; rfl
  have hno : Hid ((∀ k (hk : k < rows.length), ¬ 20 < (rows[k]).length) → R = decide (40 < n)) := Lib.hid fun hall => by
    rw [hR, (List.any_eq_false).2, Bool.false_or]
    intro r hr
    obtain ⟨i, hi, rfl⟩ := List.mem_iff_getElem.1 hr
    rw [Bool.not_eq_true]; exact decide_eq_false (hall i hi)
  replace hR := Lib.hid hR
  go_enter Tryz.func12, Tryz.ntmps12
  go_wp2_with fail
  go_loopw [6] (fun i wr => ∃ k : Nat, k ≤ n ∧ i = .int .i64 (k : Int) ∧ Hid (∀ j (hj : j < rows.length), j < k → ¬ 20 < (rows[j]).length) ∧ wr = w) (fun i _ => n - (intOf i).toNat)
  case atStart => exact ⟨0, by omega, rfl, Lib.hid (fun j _ hj => by omega), rfl⟩
  case round =>
    obtain ⟨k, hk, rfl, hS, rfl⟩ := hrel
    by_cases hkn : k < n
    · have hkl : k < rows.length := by have := hn.out; omega
      have zk : (k : Int) < (n : Int) := by omega
      obtain ⟨b, off, rfl, hlt, hall⟩ := hrd.out.resolve_left (by rintro rfl; simp at hkl)
      obtain ⟨p, c2, hcell, hs⟩ := hall k hkl
      have hlk := hw.out _ (List.getElem_mem hkl)
      have hy := hyes.out k hkl
      have hnx : Hid (¬ 20 < (rows[k]).length → ∀ j (hj : j < rows.length), j < k + 1 → ¬ 20 < (rows[j]).length) := Lib.hid fun hh j hj hjk => by
        by_cases e : j = k
        · subst e; exact hh
        · exact hS.out j hj (by omega)
      clear hall
      generalize (rows[k]).length = r at *
      by_cases h20 : 20 < r
      · have z : (20 : Int) < (r : Int) := by omega
        have hRt := hy h20
        replace hRt := Lib.hid hRt
        clear hy
        go_wp2_with fail
        go_ret
        exact ⟨by rw [hRt.out]; rfl, rfl⟩
      · have z : ¬ (20 : Int) < (r : Int) := by omega
        have hx2 := Lib.hid (hnx.out h20)
        clear hy
        go_wp2_with fail
        go_roundw
        case rel => exact ⟨k + 1, by omega, by go_num, hx2, by trivial⟩
        case measure => simp [intOf]; omega
    · obtain rfl : k = n := by omega
      have zk : ¬ (k : Int) < (k : Int) := by omega
      have hRe : R = decide (40 < k) := hno.out fun j hj => hS.out j hj (by have := hn.out; omega)
      by_cases h40 : 40 < k
      · have z : (40 : Int) < (k : Int) := by omega
        rw [decide_eq_true h40] at hRe
        replace hRe := Lib.hid hRe
        go_wp2_with fail
        go_ret
        exact ⟨by rw [hRe.out]; rfl, rfl⟩
      · have z : ¬ (40 : Int) < (k : Int) := by omega
        rw [decide_eq_false h40] at hRe
        replace hRe := Lib.hid hRe
        go_wp2_with fail
        go_ret
        exact ⟨by rw [hRe.out]; rfl, rfl⟩
end Go.Proofs.YthocnlalahknjaaGreat.Dd
