/- The contract of the laws' awake. -/
import Derived.Test.YtipcnjmlkddaaaaK8
namespace Go.Proofs.Ytipcnjmlkddaaaa
open Go.RowKit
set_option linter.unusedVariables false

theorem ext_mk (l : List UInt8) (a b : Nat) : (⟨l.toArray⟩ : ByteArray).extract a b = ⟨((l.drop a).take (b - a)).toArray⟩ := by
  rw [ByteArray.extract_mk]
theorem mk_append (l m : List UInt8) : (⟨l.toArray⟩ : ByteArray) ++ ⟨m.toArray⟩ = ⟨(l ++ m).toArray⟩ := by
  rw [← mk_bl (_ ++ _)]
  congr 2
theorem mk_size (l : List UInt8) : (⟨l.toArray⟩ : ByteArray).size = l.length := by rw [sz, bl_mk]
theorem row_awake (w : World) : SRow (w.alloc (.cells #[.string ⟨#[97, 98]⟩, .string ⟨#[]⟩] 9)) (some ⟨w.heap.size, 0, none⟩) 2 [[97, 98], []] := by
  refine ⟨rfl, .inr ⟨w.heap.size, 0, rfl, by simp, fun i hi => ?_⟩⟩
  rw [cell_of_row _ w.heap.size _ _ 9 (0, 0) (heap_alloc_new w _)]
  obtain rfl | rfl : i = 0 ∨ i = 1 := by omega
  · rfl
  · rfl
theorem scan_awake : scan (frames [[97, 98], []] ++ [0]) = ([[97, 98], []], 18, 1) := by
  rw [scan_frames _ _ (by simp), show scan [0] = ([], 0, 1) from scan_stop (by unfold stop; rfl)]
  rfl

set_option maxHeartbeats 4000000 in
set_option maxRecDepth 100000 in
theorem awake_any (w : World) :
    Calls Try.prog 8 #[] w fun e w' => e = .returned (.bool true) ∧ Below w.heap.size w w' := by
  have cP := fun w => put_any [97, 98] w (by simp)
  have cA := fun p cap w hs => all_any p 2 cap [[97, 98], []] w hs (by simp [tot])
  obtain ⟨A, hA⟩ : ∃ A : ByteArray, (⟨(frame [97, 98]).toArray⟩ : ByteArray) = A := ⟨_, rfl⟩
  obtain ⟨B, hB⟩ : ∃ B : ByteArray, (⟨(frames [[97, 98], []]).toArray⟩ : ByteArray) = B := ⟨_, rfl⟩
  obtain ⟨C, hC⟩ : ∃ C : ByteArray, B ++ (⟨#[0]⟩ : ByteArray) = C := ⟨_, rfl⟩
  obtain ⟨D, hD⟩ : ∃ D : ByteArray, A.extract 0 9 = D := ⟨_, rfl⟩
  have a1 : A.size = 10 := by rw [← hA, mk_size, frame_length]; rfl
  have b1 : B.size = 18 := by rw [← hB, mk_size]; rfl
  have a4 : A.extract 0 4 = (⟨#[0, 0, 0, 2]⟩ : ByteArray) := by rw [← hA, ext_mk]; rfl
  have hCb : bl C = frames [[97, 98], []] ++ [0] := by rw [← hC, ← hB]; exact (congrArg bl (mk_append _ [0])).trans (bl_mk _)
  have hDb : bl D = (frame [97, 98]).take 9 := by rw [← hD, ← hA, ext_mk, bl_mk]; rfl
  have cC := fun w => scan_any C w (by rw [sz, hCb]; simp [frames, frame_length])
  have cD := fun w => scan_any D w (by rw [sz, hDb]; simp [frame_length])
  rw [hCb, scan_awake] at cC
  rw [hDb, scan_torn [97, 98] 9 (by simp) (by omega) (by simp)] at cD
  have cN := fun w => check_any ⟨#[49, 50, 51, 52, 53, 54, 55, 56, 57]⟩ w (by show 9 ≤ _; omega)
  rw [show crc (bl ⟨#[49, 50, 51, 52, 53, 54, 55, 56, 57]⟩) = 3421780262 from crc_nine] at cN
  rw [hA] at cP
  rw [hB] at cA
  replace hA := Lib.hid hA
  replace hB := Lib.hid hB
  replace hCb := Lib.hid hCb
  replace hDb := Lib.hid hDb
  replace cP := Lib.hid cP
  replace cA := Lib.hid cA
  replace cC := Lib.hid cC
  replace cD := Lib.hid cD
  replace cN := Lib.hid cN
  have hmx : max (9 : Int) 0 = 9 := by decide
  go_enter Try.func8, Try.ntmps8
  go_wp2_with fail
  refine (cP.out _).mono ?_
  rintro e w1 ⟨rfl, hb1⟩
  go_wp2_with fail
  with_reducible refine (cA.out _ _ _ (row_awake w1)).mono ?_
  rintro e w2 ⟨rfl, hb2⟩
  have hb12 : Below w.heap.size w w2 := (hb1.alloc hb1.size _).trans (hb2.mono (by have := hb1.size; simp; omega))
  clear hb1 hb2
  replace hb12 := Lib.hid hb12
  go_wp2_with fail
  with_reducible refine (cC.out _).mono ?_
  rintro e w3 ⟨⟨v, rfl, hown⟩, hb3⟩
  have hb13 : Below w.heap.size w w3 := hb12.out.trans (hb3.mono hb12.out.size)
  clear hb3
  replace hb13 := Lib.hid hb13
  obtain ⟨p, cap, rfl, hrow⟩ := hown.row
  replace hrow := Lib.hid hrow
  clear hown
  go_wp2_with fail
  with_reducible refine (cD.out _).mono ?_
  rintro e w4 ⟨⟨v, rfl, hown⟩, hb4⟩
  have hrow4 := hrow.out.kept hb4
  have hb14 : Below w.heap.size w w4 := hb13.out.trans (hb4.mono hb13.out.size)
  clear hb4 hown
  replace hb14 := Lib.hid hb14
  replace hrow4 := Lib.hid hrow4
  go_wp2_with fail
  with_reducible refine (cN.out _).mono ?_
  rintro e w5 ⟨rfl, hb5⟩
  have hrow5 := hrow4.out.kept hb5
  have hb15 : Below w.heap.size w w5 := hb14.out.trans (hb5.mono hb14.out.size)
  clear hb5
  have hsame := same_any p (some ⟨w5.heap.size, 0, none⟩) 2 2 cap 2 [[97, 98], []] [[97, 98], []] _ (hrow5.kept ((Below.refl _ _).alloc (Nat.le_refl _) (.cells #[.string ⟨#[97, 98]⟩, .string ⟨#[]⟩] 9))) (row_awake w5) (by omega)
  replace hsame := Lib.hid hsame
  replace hb15 := Lib.hid hb15
  replace hrow5 := Lib.hid hrow5
  go_wp2_with fail
  with_reducible refine (hsame.out).mono ?_
  rintro e w6 ⟨rfl, n, rfl⟩
  go_wp2_with fail
  go_ret
  exact ⟨rfl, below_dn (hb15.out.alloc hb15.out.size _) n⟩
end Go.Proofs.Ytipcnjmlkddaaaa
