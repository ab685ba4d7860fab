/- The contracts of the reference's four, Put and All. -/
import Derived.Test.YtipcnjmlkddaaaaB0
namespace Go.Proofs.Ytipcnjmlkddaaaa
open Go.RowKit
set_option linter.unusedVariables false

set_option maxHeartbeats 2000000 in
set_option maxRecDepth 100000 in
theorem four_any (n : Nat) (w : World) (hn : n < 4294967296) :
    Calls Try.prog 19 #[.int .i64 (n : Int)] w fun e w' => e = .returned (.string ⟨(be n).toArray⟩) ∧ Below w.heap.size w w' := by
  have hcs := word_cells n hn
  have hconv := bytes_text (w.alloc (.cells ((Lib.byteCells (be n)).toArray) 5)) w.heap.size 4 4 (be n) (heap_alloc_new w _) rfl
  rw [hcs] at hconv
  replace hcs := Lib.hid hcs
  have n0 : (0 : Int) ≤ (n : Int) := by omega
  have n1 : (n : Int) ≤ 4294967295 := by omega
  have hBel : Below w.heap.size w (w.alloc (.cells #[.int .u8 ((n : Int) / 16777216), .int .u8 ((n : Int) / 65536 % 256), .int .u8 ((n : Int) / 256 % 256), .int .u8 ((n : Int) % 256)] 5)) := (Below.refl _ _).alloc (Nat.le_refl _) _
  replace hBel := Lib.hid hBel
  go_enter Try.func19, Try.ntmps19
  go_wp2_with fail
  go_ret
  exact ⟨rfl, hBel.out⟩

theorem frame_join (b : List UInt8) : ((⟨(be b.length).toArray⟩ : ByteArray) ++ ⟨(be (crc b)).toArray⟩) ++ ⟨b.toArray⟩ = ⟨(frame b).toArray⟩ := by
  rw [mk_append, mk_append]
  simp [frame]

set_option maxHeartbeats 2000000 in
set_option maxRecDepth 100000 in
theorem putR_any (b : List UInt8) (w : World) (hb : b.length ≤ 4001) :
    Calls Try.prog 10 #[.string ⟨b.toArray⟩] w fun e w' => e = .returned (.tuple #[.string ⟨(frame b).toArray⟩, .int .i64 0]) ∧ Below w.heap.size w w' := by
  have hbl : ((⟨b.toArray⟩ : ByteArray)).size = b.length := mk_size b
  have hck := fun w => checkR_any ⟨b.toArray⟩ w (by rw [hbl]; omega)
  rw [bl_mk] at hck
  have hj := frame_join b
  have hcr := crc_lt b
  have f1 := fun w => four_any b.length w (by omega)
  have f2 := fun w => four_any (crc b) w hcr
  have c0 : (0 : Int) ≤ ((crc b : Nat) : Int) := by omega
  have c1 : ((crc b : Nat) : Int) ≤ 4294967295 := by omega
  generalize crc b = d at *
  generalize b.length = n at *
  obtain ⟨J, hJ⟩ : ∃ J : ByteArray, (⟨(frame b).toArray⟩ : ByteArray) = J := ⟨_, rfl⟩
  rw [hJ] at hj ⊢
  replace hJ := Lib.hid hJ
  have sA : (⟨(be n).toArray⟩ : ByteArray).size = 4 := mk_size _
  have sD : (⟨(be d).toArray⟩ : ByteArray).size = 4 := mk_size _
  have sE : ((⟨(be n).toArray⟩ : ByteArray) ++ ⟨(be d).toArray⟩).size = 8 := by rw [mk_append, mk_size]; rfl
  generalize (⟨b.toArray⟩ : ByteArray) = S at *
  generalize (⟨(be n).toArray⟩ : ByteArray) = A at *
  generalize (⟨(be d).toArray⟩ : ByteArray) = D at *
  obtain ⟨E, hE⟩ : ∃ E : ByteArray, A ++ D = E := ⟨_, rfl⟩
  rw [hE] at hj sE
  have hnz : ¬ (65536 : Int) < (n : Int) := by omega
  replace hck := Lib.hid hck
  replace f1 := Lib.hid f1
  replace f2 := Lib.hid f2
  go_enter Try.func10, Try.ntmps10
  go_wp2_with fail
  with_reducible refine (f1.out _).mono ?_
  rintro e w1 ⟨rfl, h1⟩
  go_wp2_with fail
  with_reducible refine (hck.out _).mono ?_
  rintro e w1' ⟨rfl, rfl⟩
  go_wp2_with fail
  with_reducible refine (f2.out _).mono ?_
  rintro e w2 ⟨rfl, h2⟩
  have h12 := h1.trans (h2.mono h1.size)
  clear h1 h2
  replace h12 := Lib.hid h12
  go_wp2_with fail
  go_ret2
  exact ⟨rfl, h12.out⟩

set_option maxHeartbeats 4000000 in
set_option maxRecDepth 100000 in
theorem allR_any (p : Option Addr) (len cap : Nat) (ls : List (List UInt8)) (w : World) (hs : SRow w p len ls) (hm : tot ls ≤ 4000) :
    Calls Try.prog 18 #[.slice p len cap] w fun e w' => e = .returned (.tuple #[.string ⟨(frames ls).toArray⟩, .int .i64 0]) ∧ Below w.heap.size w w' := by
  have hl4 : len ≤ 4000 := by have := tot_length ls; have := hs.1; omega
  replace hs := Lib.hid hs
  go_enter Try.func18, Try.ntmps18
  go_wp2_with fail
  go_loopw [4, 5] (fun s i wr => ∃ k : Nat, k ≤ len ∧ i = .int .i64 k ∧ s = .string ⟨(frames (ls.take k)).toArray⟩ ∧ Hid (Below w.heap.size w wr)) (fun _ i _ => len - (intOf i).toNat)
  case atStart => exact ⟨0, by omega, rfl, by simp [frames], Lib.hid (Below.refl _ _)⟩
  case round =>
    obtain ⟨k, hk, rfl, rfl, hB⟩ := hrel
    by_cases hlt : k < len
    · have hR := hs.out.kept hB.out
      have hl := hs.out.1
      obtain ⟨b, off, rfl, hblt, hc⟩ := hR.2.resolve_left (by omega)
      have c0 := hc k hlt
      have hx := short_of ls k (by omega)
      have hnx := frames_take ls k (by omega)
      have hput := fun w => putR_any (ls.getD k []) w hx
      have hj : (⟨(frames (ls.take k)).toArray⟩ : ByteArray) ++ ⟨(frame (ls.getD k [])).toArray⟩ = ⟨(frames (ls.take (k + 1))).toArray⟩ := by
        rw [mk_append, hnx]; rfl
      have sA : (⟨(frames (ls.take k)).toArray⟩ : ByteArray).size = (frames (ls.take k)).length := mk_size _
      have sD : (⟨(frame (ls.getD k [])).toArray⟩ : ByteArray).size = (frame (ls.getD k [])).length := mk_size _
      have la := frames_part ls k (by omega)
      have ld : (frame (ls.getD k [])).length ≤ 4009 := by rw [frame_length]; omega
      generalize (frames (ls.take k)).length = m1 at *
      generalize (frame (ls.getD k [])).length = m2 at *
      generalize ls.getD k [] = x at *
      generalize frame x = F at *
      obtain ⟨A, hA⟩ : ∃ A : ByteArray, (⟨(frames (ls.take k)).toArray⟩ : ByteArray) = A := ⟨_, rfl⟩
      obtain ⟨D, hD⟩ : ∃ D : ByteArray, (⟨F.toArray⟩ : ByteArray) = D := ⟨_, rfl⟩
      obtain ⟨C, hC⟩ : ∃ C : ByteArray, (⟨(frames (ls.take (k + 1))).toArray⟩ : ByteArray) = C := ⟨_, rfl⟩
      rw [hA, hD, hC] at hj
      rw [hD] at hput sD
      rw [hA] at sA ⊢
      replace hA := Lib.hid hA
      replace hD := Lib.hid hD
      replace hC := Lib.hid hC
      replace hput := Lib.hid hput
      replace hnx := Lib.hid hnx
      replace hR := Lib.hid hR
      replace hl := Lib.hid hl
      clear hc
      go_wp2_with fail
      with_reducible refine (hput.out _).mono ?_
      rintro e w2 ⟨rfl, h2⟩
      have hB2 := hB.out.trans (h2.mono hB.out.size)
      replace hB2 := Lib.hid hB2
      clear h2
      go_wp2_with fail
      go_roundw
      case rel => exact ⟨k + 1, by omega, by go_num, by rw [hC.out], hB2⟩
      case measure => simp [intOf]; omega
    · have hfull : ls.take k = ls := List.take_of_length_le (by have := hs.out.1; omega)
      rw [hfull]
      replace hfull := Lib.hid hfull
      go_wp2_with fail
      go_ret2
      exact ⟨rfl, hB.out⟩
end Go.Proofs.Ytipcnjmlkddaaaa
