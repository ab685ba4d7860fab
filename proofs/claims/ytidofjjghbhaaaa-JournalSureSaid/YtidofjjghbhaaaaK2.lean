/- The code's check of bytes by the array of checks of single bytes: the contracts of of, Check. -/
import Derived.Test.YtidofjjghbhaaaaK1
namespace Go.Proofs.Ytidofjjghbhaaaa
open Go.RowKit
set_option linter.unusedVariables false

/-- block g holds the checks of single bytes -/
def Tbl (w : World) (g : Nat) : Prop := g < w.heap.size ∧ ∀ i, i < 256 → w.cell? ⟨g, i, none⟩ = some (.int .u32 ((halves 8 i : Nat) : Int))
theorem Tbl.made (w : World) : Tbl (w.alloc (.cells (tabCells 256) 120)) w.heap.size := by
  refine ⟨by simp, fun i hi => ?_⟩
  rw [cell_of_row _ w.heap.size i (tabCells 256) 120 (0, 0) (heap_alloc_new w _)]
  exact tabCells_at 256 i hi (by omega)
theorem Tbl.kept {w w' : World} {g B : Nat} (h : Tbl w g) (hb : Below B w w') (hg : g < B) : Tbl w' g := by
  refine ⟨by have := hb.size; have := h.1; omega, fun i hi => ?_⟩
  rw [hb.cell (p := ⟨g, i, none⟩) hg]; exact h.2 i hi
theorem Tbl.drewN {w : World} {g : Nat} (h : Tbl w g) (n : Nat) : Tbl (w.drewN n) g := h

theorem xor_u8 (a b : Nat) (ha : a < 256) (hb : b < 256) : bits .xor .u8 (a : Int) (b : Int) = ((a ^^^ b : Nat) : Int) := u8_xor_nat a b ha hb

set_option maxHeartbeats 1000000 in
set_option maxRecDepth 100000 in
theorem of_any (g : Nat) (s : ByteArray) (w : World) (hT : Tbl w g) (hs : s.size ≤ 4611686018427387904) :
    Calls Try.prog 92 #[.pointer (some ⟨g, 0, none⟩), .string s] w fun e w' => e = .returned (.int .u32 ((crc (bl s) : Nat) : Int)) ∧ ∃ n, w' = w.drewN n := by
  replace hT := Lib.hid hT
  go_enter Try.func92, Try.ntmps92
  go_wp2_with fail
  go_loopw [5, 9] (fun c i wr => ∃ k n : Nat, k ≤ s.size ∧ i = .int .i64 k ∧ c = .int .u32 ((steps 4294967295 ((bl s).take k) : Nat) : Int) ∧ wr = w.drewN n) (fun _ i _ => s.size - (intOf i).toNat)
  case atStart => exact ⟨0, 0, Nat.zero_le _, rfl, rfl, rfl⟩
  case round =>
    obtain ⟨k, n, hk, rfl, rfl, rfl⟩ := hrel
    have hc := steps_lt ((bl s).take k) 4294967295 (by omega)
    by_cases hlt : k < s.size
    · have hsn : steps 4294967295 ((bl s).take (k + 1)) = step (steps 4294967295 ((bl s).take k)) s[k].toNat := by rw [take_snoc s k hlt, steps_snoc]
      have hb := s[k].toNat_lt
      rw [step_table] at hsn
      generalize steps 4294967295 ((bl s).take k) = c at *
      have hx : bits .xor .u8 (IntKind.u8.wrap (c : Int)) (s[k].toNat : Int) = (((c % 256) ^^^ s[k].toNat : Nat) : Int) := by rw [IntKind.wrap_u8']; exact xor_u8 (c % 256) s[k].toNat (by omega) (by omega)
      have hm : (c % 256) ^^^ s[k].toNat < 256 := Nat.xor_lt_two_pow (n := 8) (by omega) (by omega)
      have hcell := hT.out.2 _ hm
      have hT32 := halves_lt 8 (c % 256 ^^^ s[k].toNat) (by omega)
      generalize c % 256 ^^^ s[k].toNat = m at *
      have hm0 : (0 : Int) ≤ (m : Int) := by omega
      have hmz : (m : Int) < 256 := by omega
      have hE : bits .xor .u32 ((c : Int) / 256) ((halves 8 m : Nat) : Int) = ((steps 4294967295 ((bl s).take (k + 1)) : Nat) : Int) := by
        rw [hsn]; exact xor_u32 (c / 256) (halves 8 m) (by omega) hT32
      generalize halves 8 m = T at *
      replace hE := Lib.hid hE
      replace hsn := Lib.hid hsn
      go_wp2_with fail
      go_quiet (fail)
      clear hx hcell
      go_wp2_with fail
      go_roundw
      case rel => exact ⟨k + 1, n + nq, by omega, by go_num, by rw [hE.out], rfl⟩
      case measure => simp [intOf]; omega
    · have e : (bl s).take k = bl s := List.take_of_length_le (by rw [bl_length]; omega)
      rw [e] at hc ⊢
      have hf : bits .xor .u32 IntKind.u32.max ((steps 4294967295 (bl s) : Nat) : Int) = ((crc (bl s) : Nat) : Int) := xor_u32 4294967295 (steps 4294967295 (bl s)) (by omega) hc
      have hsg : IntKind.u32.signed = false := rfl
      replace hf := Lib.hid hf
      go_wp2_with fail
      go_ret
      exact ⟨by rw [← hf.out]; rfl, n, rfl⟩
end Go.Proofs.Ytidofjjghbhaaaa
