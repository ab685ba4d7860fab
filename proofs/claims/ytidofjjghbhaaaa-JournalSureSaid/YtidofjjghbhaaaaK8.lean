/- The contracts of frame's All and Put. -/
import Derived.Test.YtidofjjghbhaaaaK7
namespace Go.Proofs.Ytidofjjghbhaaaa
open Go.RowKit
set_option linter.unusedVariables false

theorem frames_take (ls : List (List UInt8)) (k : Nat) (h : k < ls.length) : frames (ls.take (k + 1)) = frames (ls.take k) ++ (be (ls.getD k []).length ++ (be (crc (ls.getD k [])) ++ ls.getD k [])) := by
  rw [getD_take ls k h, frames_app]
  simp [frames, frame]
theorem frames_take_len (ls : List (List UInt8)) (k : Nat) (h : k < ls.length) : (frames (ls.take (k + 1))).length = (frames (ls.take k)).length + (8 + (ls.getD k []).length) := by
  rw [frames_take ls k h]
  simp [be_length]
  omega
theorem frames_part (ls : List (List UInt8)) (k : Nat) (h : tot ls ≤ 50001) : (frames (ls.take k)).length ≤ 450009 := by
  have h1 := frames_length (ls.take k)
  have h2 := tot_length (ls.take k)
  have h3 := tot_app (ls.take k) (ls.drop k)
  rw [List.take_append_drop] at h3
  omega
theorem short_of (ls : List (List UInt8)) (k : Nat) (h : tot ls ≤ 50001) : (ls.getD k []).length ≤ 50001 := by
  by_cases hk : k < ls.length
  · rw [List.getD_eq_getElem?_getD, List.getElem?_eq_getElem hk]
    have := tot_mem (List.getElem_mem hk)
    simp only [Option.getD_some]
    omega
  · rw [List.getD_eq_getElem?_getD, List.getElem?_eq_none (by omega)]
    simp

set_option maxHeartbeats 4000000 in
set_option maxRecDepth 100000 in
theorem all_any (p : Option Addr) (len cap : Nat) (ls : List (List UInt8)) (w : World) (hs : SRow w p len ls) (hm : tot ls ≤ 50001) :
    Calls Try.prog 90 #[.slice p len cap] w fun e w' => e = .returned (.tuple #[.string ⟨(frames ls).toArray⟩, .int .i64 0]) ∧ Below w.heap.size w w' := by
  obtain ⟨hl, hc⟩ := hs
  have hl4 : len ≤ 50001 := by have := tot_length ls; omega
  replace hl := Lib.hid hl
  replace hc := Lib.hid hc
  go_enter Try.func90, Try.ntmps90
  go_wp2_with fail
  go_loop [4, 13] (fun n i => ∃ k m : Nat, k ≤ len ∧ i = .int .i64 k ∧ n = .int .i64 m ∧ m ≤ 450009 ∧ Hid (m = (frames (ls.take k)).length)) (fun _ i => len - (intOf i).toNat)
  case atStart => exact ⟨0, 0, by omega, rfl, rfl, by omega, Lib.hid (by simp [frames])⟩
  case round =>
    obtain ⟨k, m, hk, rfl, rfl, hm9, hsum⟩ := hrel
    by_cases hlt : k < len
    · obtain ⟨b, off, rfl, hblt, hc⟩ := hc.out.resolve_left (by omega)
      have c0 := hc k hlt
      have hb := short_of ls k hm
      have hnx := frames_take_len ls k (by rw [hl.out]; exact hlt)
      rw [← hsum.out] at hnx
      have hle := frames_part ls (k + 1) hm
      have hbl : ((⟨(ls.getD k []).toArray⟩ : ByteArray)).size = (ls.getD k []).length := by rw [sz, bl_mk]
      rw [hnx] at hle
      generalize ls.getD k [] = x at *
      replace hnx := Lib.hid hnx
      clear hc
      generalize x.length = q at *
      go_wp2_with fail
      go_round
      case rel => exact ⟨k + 1, m + (8 + q), by omega, by go_num, by go_num, by omega, Lib.hid hnx.out.symm⟩
      case measure => simp [intOf]; omega
    · have hfull : ls.take k = ls := List.take_of_length_le (by rw [hl.out]; omega)
      rw [hfull] at hsum
      replace hfull := Lib.hid hfull
      go_wp2_with (first | (go_at_call 87; refine (table_any _).mono ?_; rintro e w' ⟨rfl, rfl⟩))
      have hT0 := Tbl.made w
      have hB0 : Below w.heap.size w (w.alloc (.cells (tabCells 256) 120)) := (Below.refl _ _).alloc (Nat.le_refl _) _
      have hz : (w.alloc (.cells (tabCells 256) 120)).heap.size = w.heap.size + 1 := World.size_alloc _ _
      rw [← hz]
      generalize w.alloc (.cells (tabCells 256) 120) = W at *
      refine (Try.Builder_Grow_fresh W.heap.size W.heap.size m (W.alloc (.cells #[.pointer none, .slice none 0 0] 123)) (Nat.le_refl _) (heap_alloc_new W _) (by simp) (by omega)).mono ?_
      rintro e W2 ⟨rfl, hbld, hbel⟩
      have hbel2 : Below W.heap.size W W2 := ((Below.refl _ _).alloc (Nat.le_refl _) _).trans hbel
      have hsz2 := hbel.size
      simp only [World.size_alloc] at hsz2
      have hT2 : Tbl W2 w.heap.size := hT0.kept hbel2 (by omega)
      generalize hg : w.heap.size = g at *
      generalize hb : W.heap.size = b at *
      have hgb : g < b := by omega
      have hBw2 : Below g w W2 := hB0.trans (hbel2.mono (by omega))
      replace hz := Lib.hid hz
      replace hg := Lib.hid hg
      replace hb := Lib.hid hb
      replace hT0 := Lib.hid hT0
      replace hT2 := Lib.hid hT2
      replace hB0 := Lib.hid hB0
      replace hbel := Lib.hid hbel
      replace hbel2 := Lib.hid hbel2
      replace hBw2 := Lib.hid hBw2
      replace hbld := Lib.hid hbld
      go_wp2_with fail
      go_loopw [31] (fun i wr => ∃ k : Nat, k ≤ len ∧ i = .int .i64 k ∧ Hid (Bld b b (Lib.byteCells (frames (ls.take k))) wr) ∧ Hid (Below b W2 wr)) (fun i _ => len - (intOf i).toNat)
      case atStart => exact ⟨0, by omega, rfl, hbld, Lib.hid (Below.refl _ _)⟩
      case round =>
        obtain ⟨k', hk', rfl, hbd, hbe⟩ := hrel
        have hszr := hbe.out.size
        by_cases hlt' : k' < len
        · obtain ⟨bA, off, rfl, hblt, hcc⟩ := hc.out.resolve_left (by omega)
          have c0 := hcc k' hlt'
          have hBr : Below g w _ := hBw2.out.trans (hbe.out.mono (by omega))
          rw [← hBr.cell (p := ⟨bA, off + k', none⟩) (by have := hg.out; simp only; omega)] at c0
          have hx := short_of ls k' hm
          have hnx := frames_take ls k' (by rw [hl.out]; exact hlt')
          have hle := frames_part ls k' hm
          have hTr : Tbl _ g := hT2.out.kept hbe.out hgb
          have hbl : ((⟨(ls.getD k' []).toArray⟩ : ByteArray)).size = (ls.getD k' []).length := by rw [sz, bl_mk]
          have hof := fun w h => of_any g ⟨(ls.getD k' []).toArray⟩ w h (by rw [hbl]; omega)
          rw [bl_mk] at hof
          have hcr := crc_lt (ls.getD k' [])
          generalize ls.getD k' [] = x at *
          generalize frames (ls.take k') = L at *
          replace hnx := Lib.hid hnx
          replace hBr := Lib.hid hBr
          replace hTr := Lib.hid hTr
          replace hof := Lib.hid hof
          replace hcc := Lib.hid hcc
          go_wp2_with fail
          refine (layWord_any b b x.length L _ hbd.out (by omega) (by omega) (by omega)).mono ?_
          rintro e w1 ⟨rfl, hd1, hl1⟩
          have hT1 := hTr.out.kept hl1 hgb
          have hz1 := hl1.size
          replace hd1 := Lib.hid hd1
          replace hl1 := Lib.hid hl1
          replace hT1 := Lib.hid hT1
          go_wp2_with fail
          refine (hof.out _ hT1.out).mono ?_
          rintro e w' ⟨rfl, n, rfl⟩
          go_wp2_with fail
          refine (layWord_any b b (crc x) _ _ (hd1.out.drewN n) hcr (by simp only [List.length_append, be_length]; omega) (by simp only [World.heap_drewN]; omega)).mono ?_
          rintro e w2 ⟨rfl, hd2, hl2⟩
          have hz2 := hl2.size
          simp only [World.heap_drewN] at hz2
          replace hd2 := Lib.hid hd2
          replace hl2 := Lib.hid hl2
          go_wp2_with fail
          refine (writeString_any b b _ ⟨x.toArray⟩ _ hd2.out (by rw [Lib.byteCells_length, hbl]; simp only [List.length_append, be_length]; omega) (by omega)).mono ?_
          rintro e w3 ⟨rfl, hd3, hl3⟩
          have hbd3 : Bld b b (Lib.byteCells (frames (ls.take (k' + 1)))) w3 := by
            rw [hnx.out, ← List.append_assoc, ← List.append_assoc, Lib.byteCells_append (_ ++ _) x]
            exact hd3
          have hbe3 : Below b W2 w3 := ((below_dn (hbe.out.trans hl1.out) n).trans hl2.out).trans hl3
          replace hbd3 := Lib.hid hbd3
          replace hbe3 := Lib.hid hbe3
          clear hd3 hl3
          go_wp2_with fail
          go_roundw
          case rel => exact ⟨k' + 1, by omega, by go_num, hbd3, hbe3⟩
          case measure => simp [intOf]; omega
        · have hfull' : ls.take k' = ls := List.take_of_length_le (by rw [hl.out]; omega)
          rw [hfull'] at hbd
          replace hfull' := Lib.hid hfull'
          go_wp2_with fail
          refine (Try.Builder_String_any b b (frames ls) _ (.inr hbd.out) (by omega)).mono ?_
          rintro e w3 ⟨rfl, h3⟩
          replace h3 := Lib.hid h3
          go_wp2_with fail
          go_ret2
          exact ⟨rfl, by rw [hg.out]; exact hBw2.out.trans ((hbe.out.trans h3.out).mono (by omega))⟩

set_option maxHeartbeats 1000000 in
set_option maxRecDepth 100000 in
theorem put_any (b : List UInt8) (w : World) (hb : b.length ≤ 50000) :
    Calls Try.prog 82 #[.string ⟨b.toArray⟩] w fun e w' => e = .returned (.tuple #[.string ⟨(frame b).toArray⟩, .int .i64 0]) ∧ Below w.heap.size w w' := by
  have hall := fun w' hs => all_any (some ⟨w.heap.size, 0, none⟩) 1 1 [b] w' hs (by simp [tot]; omega)
  have hf : frames [b] = frame b := by simp [frames]
  rw [hf] at hall
  have hR : SRow (w.alloc (.cells #[.string ⟨b.toArray⟩] 9)) (some ⟨w.heap.size, 0, none⟩) 1 [b] := by
    refine ⟨rfl, .inr ⟨w.heap.size, 0, rfl, by simp, fun i hi => ?_⟩⟩
    obtain rfl : i = 0 := by omega
    rw [cell_of_row _ w.heap.size _ _ 9 (0, 0) (heap_alloc_new w _)]
    rfl
  replace hall := Lib.hid hall
  replace hR := Lib.hid hR
  go_enter Try.func82, Try.ntmps82
  go_wp2_with (first | (go_at_call 90; with_reducible refine (hall.out _ hR.out).mono ?_; rintro e w' ⟨rfl, hb1⟩; replace hb1 := Lib.hid hb1))
  go_ret2
  exact ⟨rfl, ((Below.refl _ _).alloc (Nat.le_refl _) _).trans (hb1.out.mono (by simp))⟩
end Go.Proofs.Ytidofjjghbhaaaa
