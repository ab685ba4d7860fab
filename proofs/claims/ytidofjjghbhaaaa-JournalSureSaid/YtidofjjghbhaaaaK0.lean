/- The reference's check of bytes: its contract. -/
import Derived.Test.YtidofjjghbhaaaaProg
import Derived.Test.YtidofjjghbhaaaaC1
import Derived.WalkKit
import Derived.Below
import Derived.Lib.Hide
import Derived.Outline
import Derived.OwnWalk
import Derived.IntWalk
import Derived.Deep.QuietTactic
import Derived.BigQuiet
import Derived.Deep.LoopGhost
import Derived.Deep.DeepCutAuto
import Derived.Deep.CutBlock
import Derived.Deep.RegionWith
namespace Go.Proofs.Ytidofjjghbhaaaa
open Go.RowKit
set_option linter.unusedVariables false

/-- the bytes of a string -/
abbrev bl (s : ByteArray) : List UInt8 := s.data.toList
theorem bl_length (s : ByteArray) : (bl s).length = s.size := by show s.data.toList.length = s.data.size; simp
theorem take_snoc (s : ByteArray) (k : Nat) (h : k < s.size) : (bl s).take (k + 1) = (bl s).take k ++ [s[k]] := by
  rw [List.take_succ_eq_append_getElem (by rw [bl_length]; exact h)]; rfl
theorem xor_u32 (a b : Nat) (ha : a < 4294967296) (hb : b < 4294967296) : bits .xor .u32 (a : Int) (b : Int) = ((a ^^^ b : Nat) : Int) := u32_xor_nat a b ha hb
theorem half_odd (c : Nat) (h : c % 2 = 1) : half1 c = c / 2 ^^^ 3988292384 := by unfold half1; rw [if_pos h]
theorem half_even (c : Nat) (h : ¬ c % 2 = 1) : half1 c = c / 2 := by unfold half1; rw [if_neg h]
theorem halves_succ (k c : Nat) : halves (k + 1) c = halves k (half1 c) := rfl

set_option maxHeartbeats 1000000 in
set_option maxRecDepth 100000 in
theorem checkR_any (s : ByteArray) (w : World) (hs : s.size ≤ 4611686018427387904) :
    Calls Try.prog 79 #[.string s] w fun e w' => e = .returned (.int .u32 ((crc (bl s) : Nat) : Int)) ∧ w = w' := by
  go_enter Try.func79, Try.ntmps79
  go_wp2_with fail
  go_loop [3, 4] (fun c i => ∃ k : Nat, k ≤ s.size ∧ i = .int .i64 k ∧ c = .int .u32 ((steps 4294967295 ((bl s).take k) : Nat) : Int)) (fun _ i => s.size - (intOf i).toNat)
  case atStart => exact ⟨0, Nat.zero_le _, rfl, rfl⟩
  case round =>
    obtain ⟨k, hk, rfl, rfl⟩ := hrel
    have hc := steps_lt ((bl s).take k) 4294967295 (by omega)
    by_cases hlt : k < s.size
    · have hsn : steps 4294967295 ((bl s).take (k + 1)) = halves 8 (steps 4294967295 ((bl s).take k) ^^^ s[k].toNat) := by rw [take_snoc s k hlt, steps_snoc]; rfl
      have hb := s[k].toNat_lt
      have hx := xor_u32 (steps 4294967295 ((bl s).take k)) s[k].toNat hc (by omega)
      have hxl : steps 4294967295 ((bl s).take k) ^^^ s[k].toNat < 4294967296 := Nat.xor_lt_two_pow (n := 32) (by omega) (by omega)
      generalize steps 4294967295 ((bl s).take k) = c at *
      generalize hX : c ^^^ s[k].toNat = X at *
      replace hX := Lib.hid hX
      replace hsn := Lib.hid hsn
      replace hx := Lib.hid hx
      go_upto_region 6 with (fail)
      rw [hx.out]
      go_wp2_with fail
      obtain ⟨wo, rfl⟩ : ∃ wo : World, wo = w := ⟨_, rfl⟩
      go_loop [3, 5] (fun c i => ∃ j c' : Nat, j ≤ 8 ∧ c' < 4294967296 ∧ Hid (halves (8 - j) c' = halves 8 X) ∧ i = .int .i64 j ∧ c = .int .u32 (c' : Int)) (fun _ i => 8 - (intOf i).toNat)
      case atStart => exact ⟨0, X, by omega, hxl, Lib.hid rfl, rfl, rfl⟩
      case round =>
        obtain ⟨j, c', hj, hc', hD, rfl, rfl⟩ := hrel
        by_cases hl8 : j < 8
        · by_cases ho : c' % 2 = 1
          · have ho' : ((c' : Int) % 2 == 1) = true := by simp; omega
            have hE : bits .xor .u32 ((c' : Int) / 2) 3988292384 = ((half1 c' : Nat) : Int) := by
              rw [half_odd c' ho]; exact xor_u32 (c' / 2) 3988292384 (by omega) (by omega)
            replace hE := Lib.hid hE
            go_wp2_with fail
            go_round
            case rel =>
              refine ⟨j + 1, half1 c', by omega, half1_lt c' hc', Lib.hid ?_, by go_num, by rw [hE.out]⟩
              rw [← hD.out, show 8 - j = (8 - (j + 1)) + 1 by omega]; rfl
            case measure => simp [intOf]; omega
          · have ho' : ((c' : Int) % 2 == 1) = false := by simp; omega
            have hE : (c' : Int) / 2 = ((half1 c' : Nat) : Int) := by rw [half_even c' ho]; rfl
            replace hE := Lib.hid hE
            go_wp2_with fail
            go_round
            case rel =>
              refine ⟨j + 1, half1 c', by omega, half1_lt c' hc', Lib.hid ?_, by go_num, by rw [hE.out]⟩
              rw [← hD.out, show 8 - j = (8 - (j + 1)) + 1 by omega]; rfl
            case measure => simp [intOf]; omega
        · have hE : c' = steps 4294967295 ((bl s).take (k + 1)) := by
            rw [hsn.out, ← hD.out, show 8 - j = 0 by omega]; rfl
          replace hE := Lib.hid hE
          go_wp2_with fail
          go_round
          case rel => exact ⟨k + 1, by omega, by go_num, by rw [← hE.out]⟩
          case measure => simp [intOf]; omega
    · have e : (bl s).take k = bl s := List.take_of_length_le (by rw [bl_length]; omega)
      rw [e] at hc ⊢
      have hf : bits .xor .u32 ((steps 4294967295 (bl s) : Nat) : Int) 4294967295 = ((crc (bl s) : Nat) : Int) := by
        rw [show crc (bl s) = steps 4294967295 (bl s) ^^^ 4294967295 from Nat.xor_comm _ _]
        exact xor_u32 (steps 4294967295 (bl s)) 4294967295 hc (by omega)
      replace hf := Lib.hid hf
      go_wp2_with fail
      go_ret
      exact ⟨by rw [← hf.out]; rfl, rfl⟩
end Go.Proofs.Ytidofjjghbhaaaa
