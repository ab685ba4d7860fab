/- The contract of the reference's lay. -/
import Derived.Test.YtflbggehgjllcaaDoorDQ
namespace Go.Proofs.YtflbggehgjllcaaDoor
open Go.RowKit
set_option linter.unusedVariables false

theorem toU_wrap (v : Int) : IntKind.u64.wrap v = ((toU v : Nat) : Int) := by
  unfold IntKind.wrap toU
  simp [IntKind.bits, IntKind.signed]
  omega
theorem text_join (a b : List UInt8) : (⟨a.toArray⟩ : ByteArray) ++ ⟨b.toArray⟩ = ⟨(a ++ b).toArray⟩ := by
  apply ByteArray.ext
  simp
set_option maxHeartbeats 2000000 in
set_option maxRecDepth 100000 in
theorem rlay_any (v : Int) (k : Nat) (w : World) (hk : k ≤ 8) :
    Calls Tryd.prog 32 #[.int .i64 v, .int .i64 (k : Int)] w fun e w' => e = .returned (sv (bes k (toU v))) ∧ Below w.heap.size w w' := by
  have hwr := toU_wrap v
  have hlt := toU_lt v
  generalize toU v = U at *
  go_enter Tryd.func32, Tryd.ntmps32
  go_wp2_with fail
  go_loopw [5, 6, 7] (fun n s i wr => ∃ q : Nat, q ≤ k ∧ n = .int .u64 ((U / 256 ^ q : Nat) : Int) ∧ s = .string ⟨(bes q U).toArray⟩ ∧ i = .int .i64 (q : Int) ∧ Hid (Below w.heap.size w wr)) (fun _ _ i _ => k - (intOf i).toNat)
  case atStart => exact ⟨0, by omega, by simp, rfl, rfl, Lib.hid (Below.refl _ _)⟩
  case round =>
    obtain ⟨q, hq, rfl, rfl, rfl, hB⟩ := hrel
    by_cases hqk : q < k
    · have hz : (q : Int) < (k : Int) := by omega
      have hnext : U / 256 ^ (q + 1) = U / 256 ^ q / 256 := by rw [Nat.pow_succ, Nat.div_div_eq_div_mul]
      have hN : U / 256 ^ q < 18446744073709551616 := Nat.lt_of_le_of_lt (Nat.div_le_self _ _) hlt
      have hbs : bes (q + 1) U = [UInt8.ofNat (U / 256 ^ q % 256)] ++ bes q U := rfl
      generalize hNN : U / 256 ^ q = N at *
      have n0 : (0 : Int) ≤ (N : Int) := by omega
      have n1 : (N : Int) < 18446744073709551616 := by omega
      have hby : (N : Int) % 256 = ((UInt8.ofNat (N % 256)).toNat : Int) := by rw [byte_nat]; omega
      have hrow := row_text (w := wr.alloc (.cells #[.int .u8 ((UInt8.ofNat (N % 256)).toNat : Int)] 5)) (v := .slice (some ⟨wr.heap.size, 0, none⟩) 1 1) (l := [UInt8.ofNat (N % 256)])
        ⟨rfl, .inr ⟨wr.heap.size, 1, _, rfl, Nat.zero_le _, heap_alloc_new wr _, Nat.le_refl _, by unfold maxLen; omega, rfl, rfl⟩⟩
      rw [← hby] at hrow
      unfold sv at hrow
      have hjoin := text_join [UInt8.ofNat (N % 256)] (bes q U)
      rw [← hbs] at hjoin
      have hBel := fun o => hB.out.trans (((Below.refl wr.heap.size wr).alloc (Nat.le_refl _) o).mono hB.out.size)
      have hq2 : (N : Int) / 256 = ((N / 256 : Nat) : Int) := by omega
      have hwq : Hid (IntKind.u64.wrap ((N : Int) / 256) = (N : Int) / 256) := Lib.hid (by unfold IntKind.wrap; simp [IntKind.bits, IntKind.signed]; omega)
      obtain ⟨S1, hS1⟩ : ∃ S : ByteArray, S = ⟨[UInt8.ofNat (N % 256)].toArray⟩ := ⟨_, rfl⟩
      obtain ⟨S2, hS2⟩ : ∃ S : ByteArray, S = ⟨(bes q U).toArray⟩ := ⟨_, rfl⟩
      rw [← hS1] at hrow hjoin
      rw [← hS2] at hjoin
      rw [← hS2]
      have hs1 : S1.size = 1 := by rw [hS1]; rfl
      have hs2 : S2.size = q := by rw [hS2]; show (bes q U).toArray.size = q; simp [bes_length]
      have hsz : ¬ 9223372036854775807 < S1.size + S2.size := by omega
      clear hs1 hs2
      replace hS1 := Lib.hid hS1
      replace hS2 := Lib.hid hS2
      replace hjoin := Lib.hid hjoin
      replace hnext := Lib.hid hnext
      replace hbs := Lib.hid hbs
      replace hNN := Lib.hid hNN
      replace hby := Lib.hid hby
      replace hBel := Lib.hid hBel
      replace hq2 := Lib.hid hq2
      clear hwr n1 hN hlt
      go_wp2_with fail
      go_roundw
      case rel => exact ⟨q + 1, by omega, by rw [hnext.out, ← hq2.out, hwq.out], by rw [← hjoin.out], by go_num, Lib.hid (hBel.out _)⟩
      case measure => simp [intOf]; omega
    · obtain rfl : k = q := by omega
      have hz : ¬ (k : Int) < (k : Int) := by omega
      go_wp2_with fail
      go_ret
      exact ⟨rfl, hB.out⟩
end Go.Proofs.YtflbggehgjllcaaDoor
