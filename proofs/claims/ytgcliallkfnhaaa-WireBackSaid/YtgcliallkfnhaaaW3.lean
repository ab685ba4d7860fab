/- The contract of the reference's May. -/
import Derived.Test.YtgcliallkfnhaaaW2
namespace Go.Proofs.Ytgcliallkfnhaaa
open Go.RowKit
set_option linter.unusedVariables false

theorem mk_get (l : List UInt8) (k : Nat) (h : k < l.length) (h' : k < (⟨l.toArray⟩ : ByteArray).size) : (⟨l.toArray⟩ : ByteArray)[k]'h' = l.getD k 0 := by
  rw [List.getD_eq_getElem?_getD, List.getElem?_eq_getElem h]
  rfl
/-- what a kind uses, as a text -/
structure UsB (κ : Int) (U : ByteArray) : Prop where
  size : U.size = 7
  used : ∀ k (h : k < U.size), hasN κ k = true → U[k].toNat = 49
  free : ∀ k (h : k < U.size), hasN κ k = false → U[k].toNat = 48
  list : U.toList = usesL κ
theorem uses_text {κ : Int} (h : known κ = true) : UsB κ ⟨(usesL κ).toArray⟩ := by
  have hl := uses_length h
  have hs : (⟨(usesL κ).toArray⟩ : ByteArray).size = 7 := by rw [mk_size, hl]
  refine ⟨hs, fun k hk hu => ?_, fun k hk hu => ?_, by rw [ByteArray.toList_eq]⟩
  · rw [mk_get _ _ (by omega)]
    unfold hasN at hu
    rw [eq_of_beq hu]
    rfl
  · rw [mk_get _ _ (by omega)]
    rcases uses_two h k (by omega) with e | e
    · unfold hasN at hu
      rw [e] at hu
      cases hu
    · rw [e]; rfl

set_option maxHeartbeats 4000000 in
set_option maxRecDepth 100000 in
theorem mayCR_any (c : Cmd) (w : World) :
    Calls Try.prog 14 #[.agg c.arr] w fun e w' => e = .returned (.bool (mayC c)) ∧ Below w.heap.size w w' := by
  have cU := usesR_any c.Kind
  have cN := numbersR_any c
  have hB0 : Below w.heap.size w (w.alloc (.cells c.arr 29)) := (Below.refl _ _).alloc (Nat.le_refl _) _
  have hbx : (w.alloc (.cells c.arr 29)).heap[w.heap.size]? = some (.cells c.arr 29 (0, 0)) := heap_alloc_new w _
  have hmay := mayC_iff c
  have hcell : ∀ (v : World) (g : Nat), NumR v g c → ∀ i, i < 7 → v.cell? ⟨g, i, none⟩ = some (.int .i64 (c.num i)) := fun v g h i hi => h.cell hi
  unfold Cmd.arr at *
  generalize hv : w.alloc (.cells #[.int .i64 c.Kind, .int .i64 c.Member, .int .i64 c.Id, .int .i64 c.Other, .int .i64 c.Cur, .int .i64 c.Cur2, .int .i64 c.Amount, .int .i64 c.Amount2] 29) = v at *
  have d0 : v.cell? ⟨w.heap.size, 0, none⟩ = some (.int .i64 c.Kind) := obj_cell hbx rfl
  have d1 : v.cell? ⟨w.heap.size, 1, none⟩ = some (.int .i64 c.Member) := obj_cell hbx rfl
  have d2 : v.cell? ⟨w.heap.size, 2, none⟩ = some (.int .i64 c.Id) := obj_cell hbx rfl
  have d3 : v.cell? ⟨w.heap.size, 3, none⟩ = some (.int .i64 c.Other) := obj_cell hbx rfl
  have d4 : v.cell? ⟨w.heap.size, 4, none⟩ = some (.int .i64 c.Cur) := obj_cell hbx rfl
  have d5 : v.cell? ⟨w.heap.size, 5, none⟩ = some (.int .i64 c.Cur2) := obj_cell hbx rfl
  have d6 : v.cell? ⟨w.heap.size, 6, none⟩ = some (.int .i64 c.Amount) := obj_cell hbx rfl
  have d7 : v.cell? ⟨w.heap.size, 7, none⟩ = some (.int .i64 c.Amount2) := obj_cell hbx rfl
  generalize hB : w.heap.size = B at *
  unfold sv at cU
  replace hv := Lib.hid hv
  replace hB := Lib.hid hB
  replace hB0 := Lib.hid hB0
  replace hbx := Lib.hid hbx
  replace cU := Lib.hid cU
  replace cN := Lib.hid cN
  replace hmay := Lib.hid hmay
  replace hcell := Lib.hid hcell
  go_enter Try.func14, Try.ntmps14
  go_upto_region 1 with (fail)
  rw [hB.out]
  change Code.wp _ _ _ _ (w.alloc (.cells #[.int .i64 c.Kind, .int .i64 c.Member, .int .i64 c.Id, .int .i64 c.Other, .int .i64 c.Cur, .int .i64 c.Cur2, .int .i64 c.Amount, .int .i64 c.Amount2] 29))
  rw [hv.out]
  go_wp2_with fail
  with_reducible refine (cU.out _).mono ?_
  rintro e w1 ⟨rfl, rfl⟩
  by_cases hk : known c.Kind = true
  · have hU := uses_text hk
    have hUe : (⟨(usesL c.Kind).toArray⟩ : ByteArray).toList.isEmpty = false := by rw [hU.list]; have := uses_length hk; cases h : usesL c.Kind; rw [h] at this; cases this; rfl
    have hUe2 : ((⟨(usesL c.Kind).toArray⟩ : ByteArray).toList == []) = false := by rw [hU.list]; have := uses_length hk; cases h : usesL c.Kind; rw [h] at this; cases this; rfl
    generalize (⟨(usesL c.Kind).toArray⟩ : ByteArray) = U at *
    have hUs := hU.size
    replace hU := Lib.hid hU
    go_upto_region 4 with (fail)
    go_wp2_with fail
    with_reducible refine (cN.out _).mono ?_
    rintro e w2 ⟨g, rfl, hN, hg, hB2⟩
    have hBw : Below B w w2 := hB0.out.trans (hB2.mono (by have := obj_lt hbx.out; omega))
    have hc := hcell.out _ _ hN
    clear d0 d1 d2 d3 d4 d5 d6 d7 hUe hUe2 cN cU
    replace hN := Lib.hid hN
    replace hB2 := Lib.hid hB2
    replace hBw := Lib.hid hBw
    replace hc := Lib.hid hc
    go_wp2_with fail
    go_loop [5] (fun i => ∃ k : Nat, k ≤ 7 ∧ i = .int .i64 k ∧ Hid (∀ j, j < k → mayN c j = true)) (fun i => 7 - (intOf i).toNat)
    case atStart => exact ⟨0, by omega, rfl, Lib.hid fun j hj => by omega⟩
    case round =>
      obtain ⟨k, hk7, rfl, hR⟩ := hrel
      by_cases h7 : k = 7
      · subst h7
        have hm : mayC c = true := hmay.out.2 ⟨hk, hR.out⟩
        replace hm := Lib.hid hm
        go_wp2_with fail
        go_ret
        exact ⟨by rw [hm.out]; rfl, hBw.out⟩
      have hnext : ∀ i, k = i → mayN c i = true → Hid (∀ j, j < i + 1 → mayN c j = true) := fun i e h => Lib.hid fun j hj => by
        by_cases e2 : j = i
        · subst e2; exact h
        · exact hR.out j (by omega)
      have hbad : ∀ i, i < 7 → mayN c i = false → mayC c = false := fun i hi h => by
        cases hm : mayC c
        · rfl
        · have := (hmay.out.1 hm).2 i hi; rw [h] at this; cases this
      replace hnext := Lib.hid hnext
      replace hbad := Lib.hid hbad
      have hcs : k = 0 ∨ k = 1 ∨ k = 2 ∨ k = 3 ∨ k = 4 ∨ k = 5 ∨ k = 6 := by omega
      clear hR
      rcases hcs with rfl | rfl | rfl | rfl | rfl | rfl | rfl
      · have cx := hc.out 0 (by omega)
        cases hu : hasN c.Kind 0 with
        | false =>
          have hb := hU.out.free 0 (by omega) hu
          by_cases hx : c.num 0 = 0
          · rw [hx] at cx
            have hM : mayN c 0 = true := by unfold mayN; rw [hu, hx]; rfl
            replace hx := Lib.hid hx
            go_wp2_with fail
            go_round
            case rel => exact ⟨1, by omega, by go_num, hnext.out 0 rfl hM⟩
            case measure => simp [intOf]
          · have hx1 : (c.num 0 == 0) = false := by simpa using hx
            have hM : mayN c 0 = false := by unfold mayN; rw [hu, hx1]; rfl
            generalize c.num 0 = x at *
            have hm := hbad.out 0 (by omega) hM
            replace hm := Lib.hid hm
            go_wp2_with fail
            go_ret
            exact ⟨by rw [hm.out]; rfl, hBw.out⟩
        | true =>
          have hb := hU.out.used 0 (by omega) hu
          have hMx : mayN c 0 = decide (0 ≤ c.num 0 ∧ c.num 0 ≤ 255) := by unfold mayN; rw [hu]; rfl
          by_cases h0 : c.num 0 < 0
          · have hM : mayN c 0 = false := by rw [hMx]; exact decide_eq_false (by omega)
            generalize c.num 0 = x at *
            have hm := hbad.out 0 (by omega) hM
            replace hm := Lib.hid hm
            go_wp2_with fail
            go_ret
            exact ⟨by rw [hm.out]; rfl, hBw.out⟩
          by_cases h1 : 255 < c.num 0
          · have hM : mayN c 0 = false := by rw [hMx]; exact decide_eq_false (by omega)
            generalize c.num 0 = x at *
            have hm := hbad.out 0 (by omega) hM
            replace hm := Lib.hid hm
            go_wp2_with fail
            go_ret
            exact ⟨by rw [hm.out]; rfl, hBw.out⟩
          have hM : mayN c 0 = true := by rw [hMx]; exact decide_eq_true (by omega)
          generalize c.num 0 = x at *
          go_wp2_with fail
          go_round
          case rel => exact ⟨1, by omega, by go_num, hnext.out 0 rfl hM⟩
          case measure => simp [intOf]
      · have cx := hc.out 1 (by omega)
        cases hu : hasN c.Kind 1 with
        | false =>
          have hb := hU.out.free 1 (by omega) hu
          by_cases hx : c.num 1 = 0
          · rw [hx] at cx
            have hM : mayN c 1 = true := by unfold mayN; rw [hu, hx]; rfl
            replace hx := Lib.hid hx
            go_wp2_with fail
            go_round
            case rel => exact ⟨2, by omega, by go_num, hnext.out 1 rfl hM⟩
            case measure => simp [intOf]
          · have hx1 : (c.num 1 == 0) = false := by simpa using hx
            have hM : mayN c 1 = false := by unfold mayN; rw [hu, hx1]; rfl
            generalize c.num 1 = x at *
            have hm := hbad.out 1 (by omega) hM
            replace hm := Lib.hid hm
            go_wp2_with fail
            go_ret
            exact ⟨by rw [hm.out]; rfl, hBw.out⟩
        | true =>
          have hb := hU.out.used 1 (by omega) hu
          have hMx : mayN c 1 = decide (0 ≤ c.num 1 ∧ c.num 1 ≤ 2147483647) := by unfold mayN; rw [hu]; rfl
          by_cases h0 : c.num 1 < 0
          · have hM : mayN c 1 = false := by rw [hMx]; exact decide_eq_false (by omega)
            generalize c.num 1 = x at *
            have hm := hbad.out 1 (by omega) hM
            replace hm := Lib.hid hm
            go_wp2_with fail
            go_ret
            exact ⟨by rw [hm.out]; rfl, hBw.out⟩
          by_cases h1 : 2147483647 < c.num 1
          · have hM : mayN c 1 = false := by rw [hMx]; exact decide_eq_false (by omega)
            generalize c.num 1 = x at *
            have hm := hbad.out 1 (by omega) hM
            replace hm := Lib.hid hm
            go_wp2_with fail
            go_ret
            exact ⟨by rw [hm.out]; rfl, hBw.out⟩
          have hM : mayN c 1 = true := by rw [hMx]; exact decide_eq_true (by omega)
          generalize c.num 1 = x at *
          go_wp2_with fail
          go_round
          case rel => exact ⟨2, by omega, by go_num, hnext.out 1 rfl hM⟩
          case measure => simp [intOf]
      · have cx := hc.out 2 (by omega)
        cases hu : hasN c.Kind 2 with
        | false =>
          have hb := hU.out.free 2 (by omega) hu
          by_cases hx : c.num 2 = 0
          · rw [hx] at cx
            have hM : mayN c 2 = true := by unfold mayN; rw [hu, hx]; rfl
            replace hx := Lib.hid hx
            go_wp2_with fail
            go_round
            case rel => exact ⟨3, by omega, by go_num, hnext.out 2 rfl hM⟩
            case measure => simp [intOf]
          · have hx1 : (c.num 2 == 0) = false := by simpa using hx
            have hM : mayN c 2 = false := by unfold mayN; rw [hu, hx1]; rfl
            generalize c.num 2 = x at *
            have hm := hbad.out 2 (by omega) hM
            replace hm := Lib.hid hm
            go_wp2_with fail
            go_ret
            exact ⟨by rw [hm.out]; rfl, hBw.out⟩
        | true =>
          have hb := hU.out.used 2 (by omega) hu
          have hMx : mayN c 2 = decide (0 ≤ c.num 2 ∧ c.num 2 ≤ 255) := by unfold mayN; rw [hu]; rfl
          by_cases h0 : c.num 2 < 0
          · have hM : mayN c 2 = false := by rw [hMx]; exact decide_eq_false (by omega)
            generalize c.num 2 = x at *
            have hm := hbad.out 2 (by omega) hM
            replace hm := Lib.hid hm
            go_wp2_with fail
            go_ret
            exact ⟨by rw [hm.out]; rfl, hBw.out⟩
          by_cases h1 : 255 < c.num 2
          · have hM : mayN c 2 = false := by rw [hMx]; exact decide_eq_false (by omega)
            generalize c.num 2 = x at *
            have hm := hbad.out 2 (by omega) hM
            replace hm := Lib.hid hm
            go_wp2_with fail
            go_ret
            exact ⟨by rw [hm.out]; rfl, hBw.out⟩
          have hM : mayN c 2 = true := by rw [hMx]; exact decide_eq_true (by omega)
          generalize c.num 2 = x at *
          go_wp2_with fail
          go_round
          case rel => exact ⟨3, by omega, by go_num, hnext.out 2 rfl hM⟩
          case measure => simp [intOf]
      · have cx := hc.out 3 (by omega)
        cases hu : hasN c.Kind 3 with
        | false =>
          have hb := hU.out.free 3 (by omega) hu
          by_cases hx : c.num 3 = 0
          · rw [hx] at cx
            have hM : mayN c 3 = true := by unfold mayN; rw [hu, hx]; rfl
            replace hx := Lib.hid hx
            go_wp2_with fail
            go_round
            case rel => exact ⟨4, by omega, by go_num, hnext.out 3 rfl hM⟩
            case measure => simp [intOf]
          · have hx1 : (c.num 3 == 0) = false := by simpa using hx
            have hM : mayN c 3 = false := by unfold mayN; rw [hu, hx1]; rfl
            generalize c.num 3 = x at *
            have hm := hbad.out 3 (by omega) hM
            replace hm := Lib.hid hm
            go_wp2_with fail
            go_ret
            exact ⟨by rw [hm.out]; rfl, hBw.out⟩
        | true =>
          have hb := hU.out.used 3 (by omega) hu
          have hMx : mayN c 3 = decide (0 ≤ c.num 3 ∧ c.num 3 ≤ 255) := by unfold mayN; rw [hu]; rfl
          by_cases h0 : c.num 3 < 0
          · have hM : mayN c 3 = false := by rw [hMx]; exact decide_eq_false (by omega)
            generalize c.num 3 = x at *
            have hm := hbad.out 3 (by omega) hM
            replace hm := Lib.hid hm
            go_wp2_with fail
            go_ret
            exact ⟨by rw [hm.out]; rfl, hBw.out⟩
          by_cases h1 : 255 < c.num 3
          · have hM : mayN c 3 = false := by rw [hMx]; exact decide_eq_false (by omega)
            generalize c.num 3 = x at *
            have hm := hbad.out 3 (by omega) hM
            replace hm := Lib.hid hm
            go_wp2_with fail
            go_ret
            exact ⟨by rw [hm.out]; rfl, hBw.out⟩
          have hM : mayN c 3 = true := by rw [hMx]; exact decide_eq_true (by omega)
          generalize c.num 3 = x at *
          go_wp2_with fail
          go_round
          case rel => exact ⟨4, by omega, by go_num, hnext.out 3 rfl hM⟩
          case measure => simp [intOf]
      · have cx := hc.out 4 (by omega)
        cases hu : hasN c.Kind 4 with
        | false =>
          have hb := hU.out.free 4 (by omega) hu
          by_cases hx : c.num 4 = 0
          · rw [hx] at cx
            have hM : mayN c 4 = true := by unfold mayN; rw [hu, hx]; rfl
            replace hx := Lib.hid hx
            go_wp2_with fail
            go_round
            case rel => exact ⟨5, by omega, by go_num, hnext.out 4 rfl hM⟩
            case measure => simp [intOf]
          · have hx1 : (c.num 4 == 0) = false := by simpa using hx
            have hM : mayN c 4 = false := by unfold mayN; rw [hu, hx1]; rfl
            generalize c.num 4 = x at *
            have hm := hbad.out 4 (by omega) hM
            replace hm := Lib.hid hm
            go_wp2_with fail
            go_ret
            exact ⟨by rw [hm.out]; rfl, hBw.out⟩
        | true =>
          have hb := hU.out.used 4 (by omega) hu
          have hMx : mayN c 4 = decide (0 ≤ c.num 4 ∧ c.num 4 ≤ 255) := by unfold mayN; rw [hu]; rfl
          by_cases h0 : c.num 4 < 0
          · have hM : mayN c 4 = false := by rw [hMx]; exact decide_eq_false (by omega)
            generalize c.num 4 = x at *
            have hm := hbad.out 4 (by omega) hM
            replace hm := Lib.hid hm
            go_wp2_with fail
            go_ret
            exact ⟨by rw [hm.out]; rfl, hBw.out⟩
          by_cases h1 : 255 < c.num 4
          · have hM : mayN c 4 = false := by rw [hMx]; exact decide_eq_false (by omega)
            generalize c.num 4 = x at *
            have hm := hbad.out 4 (by omega) hM
            replace hm := Lib.hid hm
            go_wp2_with fail
            go_ret
            exact ⟨by rw [hm.out]; rfl, hBw.out⟩
          have hM : mayN c 4 = true := by rw [hMx]; exact decide_eq_true (by omega)
          generalize c.num 4 = x at *
          go_wp2_with fail
          go_round
          case rel => exact ⟨5, by omega, by go_num, hnext.out 4 rfl hM⟩
          case measure => simp [intOf]
      · have cx := hc.out 5 (by omega)
        cases hu : hasN c.Kind 5 with
        | false =>
          have hb := hU.out.free 5 (by omega) hu
          by_cases hx : c.num 5 = 0
          · rw [hx] at cx
            have hM : mayN c 5 = true := by unfold mayN; rw [hu, hx]; rfl
            replace hx := Lib.hid hx
            go_wp2_with fail
            go_round
            case rel => exact ⟨6, by omega, by go_num, hnext.out 5 rfl hM⟩
            case measure => simp [intOf]
          · have hx1 : (c.num 5 == 0) = false := by simpa using hx
            have hM : mayN c 5 = false := by unfold mayN; rw [hu, hx1]; rfl
            generalize c.num 5 = x at *
            have hm := hbad.out 5 (by omega) hM
            replace hm := Lib.hid hm
            go_wp2_with fail
            go_ret
            exact ⟨by rw [hm.out]; rfl, hBw.out⟩
        | true =>
          have hb := hU.out.used 5 (by omega) hu
          have hM : mayN c 5 = true := by unfold mayN; rw [hu]; rfl
          generalize c.num 5 = x at *
          go_wp2_with fail
          go_round
          case rel => exact ⟨6, by omega, by go_num, hnext.out 5 rfl hM⟩
          case measure => simp [intOf]
      · have cx := hc.out 6 (by omega)
        cases hu : hasN c.Kind 6 with
        | false =>
          have hb := hU.out.free 6 (by omega) hu
          by_cases hx : c.num 6 = 0
          · rw [hx] at cx
            have hM : mayN c 6 = true := by unfold mayN; rw [hu, hx]; rfl
            replace hx := Lib.hid hx
            go_wp2_with fail
            go_round
            case rel => exact ⟨7, by omega, by go_num, hnext.out 6 rfl hM⟩
            case measure => simp [intOf]
          · have hx1 : (c.num 6 == 0) = false := by simpa using hx
            have hM : mayN c 6 = false := by unfold mayN; rw [hu, hx1]; rfl
            generalize c.num 6 = x at *
            have hm := hbad.out 6 (by omega) hM
            replace hm := Lib.hid hm
            go_wp2_with fail
            go_ret
            exact ⟨by rw [hm.out]; rfl, hBw.out⟩
        | true =>
          have hb := hU.out.used 6 (by omega) hu
          have hM : mayN c 6 = true := by unfold mayN; rw [hu]; rfl
          generalize c.num 6 = x at *
          go_wp2_with fail
          go_round
          case rel => exact ⟨7, by omega, by go_num, hnext.out 6 rfl hM⟩
          case measure => simp [intOf]
  · have hm : mayC c = false := by cases h : mayC c; rfl; exact absurd (hmay.out.1 h).1 hk
    have he : usesL c.Kind = [] := (uses_known _).2 (by simpa using hk)
    rw [he]
    replace hm := Lib.hid hm
    go_wp2_with fail
    go_ret
    exact ⟨by rw [hm.out]; rfl, hB0.out⟩
end Go.Proofs.Ytgcliallkfnhaaa
