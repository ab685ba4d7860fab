/- The contracts of the reference's four, Put and All. -/
import Derived.Test.YtidofjjghbhaaaaB0
namespace Go.Proofs.Ytidofjjghbhaaaa
open Go.RowKit
set_option linter.unusedVariables false

set_option maxHeartbeats 2000000 in
set_option maxRecDepth 100000 in
theorem four_any (n : Nat) (w : World) (hn : n < 4294967296) :
    Calls Try.prog 84 #[.int .i64 (n : Int)] w fun e w' => e = .returned (.string ⟨(be n).toArray⟩) ∧ Below w.heap.size w w' := by
  have hcs := word_cells n hn
  have hconv := bytes_text (w.alloc (.cells ((Lib.byteCells (be n)).toArray) 5)) w.heap.size 4 4 (be n) (heap_alloc_new w _) rfl
  rw [hcs] at hconv
  replace hcs := Lib.hid hcs
  have n0 : (0 : Int) ≤ (n : Int) := by omega
  have n1 : (n : Int) ≤ 4294967295 := by omega
  have hBel : Below w.heap.size w (w.alloc (.cells #[.int .u8 ((n : Int) / 16777216), .int .u8 ((n : Int) / 65536 % 256), .int .u8 ((n : Int) / 256 % 256), .int .u8 ((n : Int) % 256)] 5)) := (Below.refl _ _).alloc (Nat.le_refl _) _
  replace hBel := Lib.hid hBel
  go_enter Try.func84, Try.ntmps84
  go_wp2_with fail
  go_ret
  exact ⟨rfl, hBel.out⟩

theorem frame_join (b : List UInt8) : ((⟨(be b.length).toArray⟩ : ByteArray) ++ ⟨(be (crc b)).toArray⟩) ++ ⟨b.toArray⟩ = ⟨(frame b).toArray⟩ := by
  rw [mk_append, mk_append]
  simp [frame]

set_option maxHeartbeats 2000000 in
set_option maxRecDepth 100000 in
theorem putR_any (b : List UInt8) (w : World) (hb : b.length ≤ 50001) :
    Calls Try.prog 59 #[.string ⟨b.toArray⟩] w fun e w' => e = .returned (.tuple #[.string ⟨(frame b).toArray⟩, .int .i64 0]) ∧ Below w.heap.size w w' := by
  have hbl : ((⟨b.toArray⟩ : ByteArray)).size = b.length := mk_size b
  have hck := fun w => checkR_any ⟨b.toArray⟩ w (by rw [hbl]; omega)
  rw [bl_mk] at hck
  have hj := frame_join b
  have hcr := crc_lt b
  have f1 := fun w => four_any b.length w (by omega)
  have f2 := fun w => four_any (crc b) w hcr
  have c0 : (0 : Int) ≤ ((crc b : Nat) : Int) := by omega
  have c1 : ((crc b : Nat) : Int) ≤ 4294967295 := by omega
  generalize crc b = d at *
  generalize b.length = n at *
  obtain ⟨J, hJ⟩ : ∃ J : ByteArray, (⟨(frame b).toArray⟩ : ByteArray) = J := ⟨_, rfl⟩
  rw [hJ] at hj ⊢
  replace hJ := Lib.hid hJ
  have sA : (⟨(be n).toArray⟩ : ByteArray).size = 4 := mk_size _
  have sD : (⟨(be d).toArray⟩ : ByteArray).size = 4 := mk_size _
  have sE : ((⟨(be n).toArray⟩ : ByteArray) ++ ⟨(be d).toArray⟩).size = 8 := by rw [mk_append, mk_size]; rfl
  generalize (⟨b.toArray⟩ : ByteArray) = S at *
  generalize (⟨(be n).toArray⟩ : ByteArray) = A at *
  generalize (⟨(be d).toArray⟩ : ByteArray) = D at *
  obtain ⟨E, hE⟩ : ∃ E : ByteArray, A ++ D = E := ⟨_, rfl⟩
  rw [hE] at hj sE
  have hnz : ¬ (65536 : Int) < (n : Int) := by omega
  replace hck := Lib.hid hck
  replace f1 := Lib.hid f1
  replace f2 := Lib.hid f2
  go_enter Try.func59, Try.ntmps59
  go_wp2_with fail
  with_reducible refine (f1.out _).mono ?_
  rintro e w1 ⟨rfl, h1⟩
  go_wp2_with fail
  with_reducible refine (hck.out _).mono ?_
  rintro e w1' ⟨rfl, rfl⟩
  go_wp2_with fail
  with_reducible refine (f2.out _).mono ?_
  rintro e w2 ⟨rfl, h2⟩
  have h12 := h1.trans (h2.mono h1.size)
  clear h1 h2
  replace h12 := Lib.hid h12
  go_wp2_with fail
  go_ret2
  exact ⟨rfl, h12.out⟩

end Go.Proofs.Ytidofjjghbhaaaa
