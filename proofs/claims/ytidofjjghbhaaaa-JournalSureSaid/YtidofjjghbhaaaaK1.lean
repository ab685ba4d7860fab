/- The array of checks of single bytes: the contract of checksOfBytes. -/
import Derived.Test.YtidofjjghbhaaaaK0
namespace Go.Proofs.Ytidofjjghbhaaaa
open Go.RowKit
set_option linter.unusedVariables false

theorem hv59 : ∀ w, (zeroValue 120).run Try.prog w = .ok (.agg (Array.replicate 256 (.int .u32 0))) w := fun w => by kernel_rfl
/-- the array's cells when k of them are laid -/
def tabCells : Nat → Array Value
  | 0 => Array.replicate 256 (.int .u32 0)
  | k + 1 => (tabCells k).setIfInBounds k (.int .u32 ((halves 8 k : Nat) : Int))
theorem tabCells_zero : tabCells 0 = Array.replicate 256 (.int .u32 0) := rfl
theorem tabCells_succ (k : Nat) : tabCells (k + 1) = (tabCells k).setIfInBounds k (.int .u32 ((halves 8 k : Nat) : Int)) := rfl
theorem tabCells_size : ∀ k, (tabCells k).size = 256
  | 0 => by rw [tabCells_zero, Array.size_replicate]
  | k + 1 => by rw [tabCells_succ, Array.size_setIfInBounds, tabCells_size k]
theorem tabCells_at : ∀ (k i : Nat), i < k → k ≤ 256 → (tabCells k)[i]? = some (.int .u32 ((halves 8 i : Nat) : Int))
  | k + 1, i, hi, hk => by
    have hs := tabCells_size k
    rw [tabCells_succ, Array.getElem?_setIfInBounds]
    by_cases e : k = i
    · subst e; rw [if_pos rfl, if_pos (by omega)]
    · rw [if_neg e]; exact tabCells_at k i (by omega) (by omega)
theorem tabCells_some (k i : Nat) (hi : i < 256) : ∃ v, (tabCells k)[i]? = some v := ⟨_, Array.getElem?_eq_getElem (by rw [tabCells_size]; exact hi)⟩

theorem and_one (c : Nat) (h : c < 4294967296) : bits .and .u32 (c : Int) 1 = ((c % 2 : Nat) : Int) := by
  rw [← Nat.and_one_is_mod]; exact u32_and_nat c 1 h (by omega)

set_option maxHeartbeats 1000000 in
set_option maxRecDepth 100000 in
theorem table_any (w : World) :
    Calls Try.prog 87 #[] w fun e w' => e = .returned (.pointer (some ⟨w.heap.size, 0, none⟩)) ∧ w' = w.alloc (.cells (tabCells 256) 120) := by
  have hz := hv59
  go_enter Try.func87, Try.ntmps87
  go_wp2_with fail
  rw [← tabCells_zero]
  go_loopw [5] (fun i wr => ∃ k : Nat, k ≤ 256 ∧ i = .int .i64 k ∧ wr = w.alloc (.cells (tabCells k) 120)) (fun i _ => 256 - (intOf i).toNat)
  case atStart => exact ⟨0, Nat.zero_le _, rfl, rfl⟩
  case round =>
    obtain ⟨k, hk, rfl, rfl⟩ := hrel
    clear hz
    by_cases hlt : k < 256
    · have hltz : (k : Int) < 256 := by omega
      go_wp2_with fail
      obtain ⟨wo, hwo⟩ : ∃ wo : World, wo = w.alloc (.cells (tabCells k) 120) := ⟨_, rfl⟩
      rw [← hwo]
      replace hwo := Lib.hid hwo
      go_loop [3, 10] (fun c i => ∃ j c' : Nat, j ≤ 8 ∧ c' < 4294967296 ∧ Hid (halves (8 - j) c' = halves 8 k) ∧ i = .int .i64 j ∧ c = .int .u32 (c' : Int)) (fun _ i => 8 - (intOf i).toNat)
      case atStart => exact ⟨0, k, by omega, by omega, Lib.hid rfl, rfl, rfl⟩
      case round =>
        obtain ⟨j, c', hj, hc', hD, rfl, rfl⟩ := hrel
        have hA := and_one c' hc'
        by_cases hl8 : j < 8
        · have hl8z : (j : Int) < 8 := by omega
          by_cases ho : c' % 2 = 1
          · rw [ho] at hA
            have hE : bits .xor .u32 ((c' : Int) / 2) 3988292384 = ((half1 c' : Nat) : Int) := by
              rw [half_odd c' ho]; exact xor_u32 (c' / 2) 3988292384 (by omega) (by omega)
            replace hE := Lib.hid hE
            go_wp2_with fail
            go_round
            case rel =>
              refine ⟨j + 1, half1 c', by omega, half1_lt c' hc', Lib.hid ?_, by go_num, by rw [hE.out]⟩
              rw [← hD.out, show 8 - j = (8 - (j + 1)) + 1 by omega]; rfl
            case measure => simp [intOf]; omega
          · have ho' : c' % 2 = 0 := by omega
            rw [ho'] at hA
            have hE : (c' : Int) / 2 = ((half1 c' : Nat) : Int) := by rw [half_even c' ho]; rfl
            replace hE := Lib.hid hE
            go_wp2_with fail
            go_round
            case rel =>
              refine ⟨j + 1, half1 c', by omega, half1_lt c' hc', Lib.hid ?_, by go_num, by rw [hE.out]⟩
              rw [← hD.out, show 8 - j = (8 - (j + 1)) + 1 by omega]; rfl
            case measure => simp [intOf]; omega
        · have hE : c' = halves 8 k := by
            rw [← hD.out, show 8 - j = 0 by omega]; rfl
          replace hE := Lib.hid hE
          have hl8z : ¬ (j : Int) < 8 := by omega
          rw [hwo.out]
          obtain ⟨v, hv⟩ := tabCells_some k k hlt
          clear hA
          go_wp2_with fail
          go_roundw
          case rel => exact ⟨k + 1, by omega, by go_num, by rw [tabCells_succ, hE.out]⟩
          case measure => simp [intOf]; omega
    · obtain rfl : k = 256 := by omega
      go_wp2_with fail
      go_ret
      exact ⟨rfl, rfl⟩
end Go.Proofs.Ytidofjjghbhaaaa
