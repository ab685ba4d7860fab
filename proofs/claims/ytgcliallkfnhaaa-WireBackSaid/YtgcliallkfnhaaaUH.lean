/- The contracts of wire's May, Put: the program's commands keep their contracts. -/
import Derived.Test.YtgcliallkfnhaaaUG
import Derived.Test.YtgcliallkfnhaaaWL3
namespace Go.Proofs.Ytgcliallkfnhaaa
open Go.RowKit
set_option linter.unusedVariables false

theorem eql_any (c d : Cmd) (b : Bool) (hb : b = true ↔ c = d) (w : World) : (binOp .eql 23 (.agg #[.int .i64 c.Kind, .int .i64 c.Member, .int .i64 c.Id, .int .i64 c.Other, .int .i64 c.Cur, .int .i64 c.Cur2, .int .i64 c.Amount, .int .i64 c.Amount2]) (.agg #[.int .i64 d.Kind, .int .i64 d.Member, .int .i64 d.Id, .int .i64 d.Other, .int .i64 d.Cur, .int .i64 d.Cur2, .int .i64 d.Amount, .int .i64 d.Amount2])).run Try.prog w = .ok (.bool b) w := by
  have e0 := Try.underlying3
  have e1 := Try.underlying2
  rw [run_eql_struct, run_equalIn_agg w 9999 23 _ _ eq23a eq23b, eq23d]
  by_cases e : c = d
  · obtain rfl := hb.2 e
    subst e
    simp [Op.eqFields, go_sem, e0, e1]
  · obtain rfl : b = false := by
      cases b
      · rfl
      · exact absurd (hb.1 rfl) e
    simp [Op.eqFields, go_sem, e0, e1]
    intros
    intro h8
    apply e
    cases c; cases d
    simp_all

set_option maxHeartbeats 8000000 in
set_option maxRecDepth 100000 in
theorem may_any (c : Cmd) (hc : c.In) (w : World) : Calls Try.prog 13 #[.agg c.arr] w fun e w' => e = .returned (.bool (mayC c)) ∧ Below w.heap.size w w' := by
  have hB0 : Below w.heap.size w (w.alloc (.cells c.arr 23)) := (Below.refl _ _).alloc (Nat.le_refl _) _
  have hbx : (w.alloc (.cells c.arr 23)).heap[w.heap.size]? = some (.cells c.arr 23 (0, 0)) := heap_alloc_new w _
  have cL := fun w => laid_any c w
  have hmk : bl (⟨(putC c).toArray⟩ : ByteArray) = putC c := bl_mk _
  have cT := fun w => take_any (⟨(putC c).toArray⟩ : ByteArray) w (by rw [mk_size, putC_flds, List.length_cons]; have := partB_le c (flds c.Kind); have := flds_len c.Kind; omega)
  rw [hmk] at cT
  unfold sv at cL
  have hiff : ∀ d, takeC (putC c) = some d → (mayC c = true ↔ d = c) := fun d hd => ⟨fun h => by rw [take_put hc h] at hd; injection hd with hd; exact hd.symm, fun h => by rw [← h]; exact (put_take hd).2.1⟩
  have hnone : takeC (putC c) = none → mayC c = false := fun h => by
    cases h2 : mayC c with
    | false => rfl
    | true => rw [take_put hc h2] at h; cases h
  have arr0 : c.arr = #[.int .i64 c.Kind, .int .i64 c.Member, .int .i64 c.Id, .int .i64 c.Other, .int .i64 c.Cur, .int .i64 c.Cur2, .int .i64 c.Amount, .int .i64 c.Amount2] := rfl
  rw [arr0] at hB0 hbx cL ⊢
  generalize hv : w.alloc (.cells #[.int .i64 c.Kind, .int .i64 c.Member, .int .i64 c.Id, .int .i64 c.Other, .int .i64 c.Cur, .int .i64 c.Cur2, .int .i64 c.Amount, .int .i64 c.Amount2] 23) = v at *
  generalize hB : w.heap.size = B at *
  generalize (⟨(putC c).toArray⟩ : ByteArray) = S at *
  have p0 : v.cell? ⟨B, 0, none⟩ = some (.int .i64 c.Kind) := obj_cell hbx rfl
  have p1 : v.cell? ⟨B, 1, none⟩ = some (.int .i64 c.Member) := obj_cell hbx rfl
  have p2 : v.cell? ⟨B, 2, none⟩ = some (.int .i64 c.Id) := obj_cell hbx rfl
  have p3 : v.cell? ⟨B, 3, none⟩ = some (.int .i64 c.Other) := obj_cell hbx rfl
  have p4 : v.cell? ⟨B, 4, none⟩ = some (.int .i64 c.Cur) := obj_cell hbx rfl
  have p5 : v.cell? ⟨B, 5, none⟩ = some (.int .i64 c.Cur2) := obj_cell hbx rfl
  have p6 : v.cell? ⟨B, 6, none⟩ = some (.int .i64 c.Amount) := obj_cell hbx rfl
  have p7 : v.cell? ⟨B, 7, none⟩ = some (.int .i64 c.Amount2) := obj_cell hbx rfl
  have hnc : noCmd.arr = #[.int .i64 0, .int .i64 0, .int .i64 0, .int .i64 0, .int .i64 0, .int .i64 0, .int .i64 0, .int .i64 0] := rfl
  replace hv := Lib.hid hv
  replace hB := Lib.hid hB
  replace hB0 := Lib.hid hB0
  replace hbx := Lib.hid hbx
  replace cL := Lib.hid cL
  replace arr0 := Lib.hid arr0
  replace hmk := Lib.hid hmk
  replace hnc := Lib.hid hnc
  cases htk : takeC (putC c) with
  | none =>
    have hm := hnone htk
    rw [hm]
    rw [htk] at cT
    unfold takeV at cT
    simp only [hnc.out] at cT
    replace cT := Lib.hid cT
    replace htk := Lib.hid htk
    replace hm := Lib.hid hm
    clear hiff hnone
    go_enter Try.func13, Try.ntmps13
    go_upto_region 1 with (fail)
    rw [hB.out]
    change Code.wp _ _ _ _ (w.alloc (.cells #[.int .i64 c.Kind, .int .i64 c.Member, .int .i64 c.Id, .int .i64 c.Other, .int .i64 c.Cur, .int .i64 c.Cur2, .int .i64 c.Amount, .int .i64 c.Amount2] 23))
    rw [hv.out]
    go_wp2_with fail
    with_reducible refine (cL.out _).mono ?_
    rintro e w1 ⟨rfl, hb1⟩
    have hB1 : Below B w w1 := hB0.out.trans (hb1.mono (Nat.le_of_lt (obj_lt hbx.out)))
    replace hb1 := Lib.hid hb1
    replace hB1 := Lib.hid hB1
    go_wp2_with fail
    with_reducible refine (cT.out _).mono ?_
    rintro e w2 ⟨rfl, hb2⟩
    have hs1 : B ≤ w1.heap.size := Nat.le_of_lt (obj_lt ((hb1.out.block B (obj_lt hbx.out)).trans hbx.out))
    have hB2 : Below B w w2 := hB1.out.trans (hb2.mono hs1)
    have hs2 : B ≤ w2.heap.size := Nat.le_trans hs1 hb2.size
    have hx := heap_alloc_new w2 (.cells #[.int .i64 0, .int .i64 0, .int .i64 0, .int .i64 0, .int .i64 0, .int .i64 0, .int .i64 0, .int .i64 0] 23)
    replace hb2 := Lib.hid hb2
    replace hx := Lib.hid hx
    replace hB2 := Lib.hid hB2
    go_wp2_with (first | (refine wpList_store_row rfl 23 _ _ rfl w2.heap.size _ rfl rfl 23 _ hx.out (by kernel_rfl) rfl (by simp [Value.oneCell']) ?_))
    go_ret
    exact ⟨rfl, below_setRow (hB2.out.alloc hs2 _) hs2 _⟩
  | some d =>
    have hm := hiff d htk
    rw [htk] at cT
    have eqD := eql_any d c (mayC c) hm
    generalize mayC c = bb at *
    unfold takeV Cmd.arr at cT
    simp only at cT
    replace cT := Lib.hid cT
    replace htk := Lib.hid htk
    replace hm := Lib.hid hm
    clear hiff hnone
    go_enter Try.func13, Try.ntmps13
    go_upto_region 1 with (fail)
    rw [hB.out]
    change Code.wp _ _ _ _ (w.alloc (.cells #[.int .i64 c.Kind, .int .i64 c.Member, .int .i64 c.Id, .int .i64 c.Other, .int .i64 c.Cur, .int .i64 c.Cur2, .int .i64 c.Amount, .int .i64 c.Amount2] 23))
    rw [hv.out]
    go_wp2_with fail
    with_reducible refine (cL.out _).mono ?_
    rintro e w1 ⟨rfl, hb1⟩
    have hbx1 := (hb1.block B (obj_lt hbx.out)).trans hbx.out
    have hB1 : Below B w w1 := hB0.out.trans (hb1.mono (Nat.le_of_lt (obj_lt hbx.out)))
    replace hb1 := Lib.hid hb1
    replace hB1 := Lib.hid hB1
    replace hbx1 := Lib.hid hbx1
    go_wp2_with fail
    with_reducible refine (cT.out _).mono ?_
    rintro e w2 ⟨rfl, hb2⟩
    have hs1 : B ≤ w1.heap.size := Nat.le_of_lt (obj_lt hbx1.out)
    have hB2 : Below B w w2 := hB1.out.trans (hb2.mono hs1)
    have hbx2 := (hb2.block B (obj_lt hbx1.out)).trans hbx1.out
    have hs2 : B ≤ w2.heap.size := Nat.le_trans hs1 hb2.size
    have hx := heap_alloc_new w2 (.cells #[.int .i64 0, .int .i64 0, .int .i64 0, .int .i64 0, .int .i64 0, .int .i64 0, .int .i64 0, .int .i64 0] 23)
    have hbx3 := ((setRow_other _ _ _ #[.int .i64 d.Kind, .int .i64 d.Member, .int .i64 d.Id, .int .i64 d.Other, .int .i64 d.Cur, .int .i64 d.Cur2, .int .i64 d.Amount, .int .i64 d.Amount2] (show B ≠ w2.heap.size by have := obj_lt hbx2; omega)).trans (Below.heap_alloc w2 (.cells #[.int .i64 0, .int .i64 0, .int .i64 0, .int .i64 0, .int .i64 0, .int .i64 0, .int .i64 0, .int .i64 0] 23) B (obj_lt hbx2))).trans hbx2
    have hx3 := setRow_heap _ _ _ #[.int .i64 d.Kind, .int .i64 d.Member, .int .i64 d.Id, .int .i64 d.Other, .int .i64 d.Cur, .int .i64 d.Cur2, .int .i64 d.Amount, .int .i64 d.Amount2] _ _ hx
    have hB3 := below_setRow (hB2.alloc hs2 (.cells #[.int .i64 0, .int .i64 0, .int .i64 0, .int .i64 0, .int .i64 0, .int .i64 0, .int .i64 0, .int .i64 0] 23)) hs2 #[.int .i64 d.Kind, .int .i64 d.Member, .int .i64 d.Id, .int .i64 d.Other, .int .i64 d.Cur, .int .i64 d.Cur2, .int .i64 d.Amount, .int .i64 d.Amount2]
    replace hb2 := Lib.hid hb2
    replace hx := Lib.hid hx
    replace hB2 := Lib.hid hB2
    replace hB3 := Lib.hid hB3
    replace hbx2 := Lib.hid hbx2
    replace hbx3 := Lib.hid hbx3
    replace hx3 := Lib.hid hx3
    have s0 := obj_cell hx3.out (i := 0) rfl
    have s1 := obj_cell hx3.out (i := 1) rfl
    have s2 := obj_cell hx3.out (i := 2) rfl
    have s3 := obj_cell hx3.out (i := 3) rfl
    have s4 := obj_cell hx3.out (i := 4) rfl
    have s5 := obj_cell hx3.out (i := 5) rfl
    have s6 := obj_cell hx3.out (i := 6) rfl
    have s7 := obj_cell hx3.out (i := 7) rfl
    have t0 := obj_cell hbx3.out (i := 0) rfl
    have t1 := obj_cell hbx3.out (i := 1) rfl
    have t2 := obj_cell hbx3.out (i := 2) rfl
    have t3 := obj_cell hbx3.out (i := 3) rfl
    have t4 := obj_cell hbx3.out (i := 4) rfl
    have t5 := obj_cell hbx3.out (i := 5) rfl
    have t6 := obj_cell hbx3.out (i := 6) rfl
    have t7 := obj_cell hbx3.out (i := 7) rfl
    go_wp2_with (first | (refine wpList_store_row rfl 23 _ _ rfl w2.heap.size _ rfl rfl 23 _ hx.out (by kernel_rfl) rfl (by simp [Value.oneCell']) ?_))
    go_ret
    exact ⟨rfl, hB3.out⟩

set_option maxHeartbeats 8000000 in
set_option maxRecDepth 100000 in
theorem put_any (c : Cmd) (hc : c.In) (w : World) : Calls Try.prog 8 #[.agg c.arr] w fun e w' => e = .returned (putV c) ∧ Below w.heap.size w w' := by
  have hB0 : Below w.heap.size w (w.alloc (.cells c.arr 23)) := (Below.refl _ _).alloc (Nat.le_refl _) _
  have hbx : (w.alloc (.cells c.arr 23)).heap[w.heap.size]? = some (.cells c.arr 23 (0, 0)) := heap_alloc_new w _
  have cL := fun w => laid_any c w
  have cM := fun w => may_any c hc w
  unfold sv at cL
  unfold putV sv
  have arr0 : c.arr = #[.int .i64 c.Kind, .int .i64 c.Member, .int .i64 c.Id, .int .i64 c.Other, .int .i64 c.Cur, .int .i64 c.Cur2, .int .i64 c.Amount, .int .i64 c.Amount2] := rfl
  rw [arr0] at hB0 hbx cL cM ⊢
  generalize hv : w.alloc (.cells #[.int .i64 c.Kind, .int .i64 c.Member, .int .i64 c.Id, .int .i64 c.Other, .int .i64 c.Cur, .int .i64 c.Cur2, .int .i64 c.Amount, .int .i64 c.Amount2] 23) = v at *
  generalize hB : w.heap.size = B at *
  generalize (⟨(putC c).toArray⟩ : ByteArray) = S at *
  have hcell : ∀ w' : World, w'.heap[B]? = some (.cells #[.int .i64 c.Kind, .int .i64 c.Member, .int .i64 c.Id, .int .i64 c.Other, .int .i64 c.Cur, .int .i64 c.Cur2, .int .i64 c.Amount, .int .i64 c.Amount2] 23 (0, 0)) →
      w'.cell? ⟨B, 0, none⟩ = some (.int .i64 c.Kind) ∧ w'.cell? ⟨B, 1, none⟩ = some (.int .i64 c.Member) ∧ w'.cell? ⟨B, 2, none⟩ = some (.int .i64 c.Id) ∧ w'.cell? ⟨B, 3, none⟩ = some (.int .i64 c.Other) ∧ w'.cell? ⟨B, 4, none⟩ = some (.int .i64 c.Cur) ∧ w'.cell? ⟨B, 5, none⟩ = some (.int .i64 c.Cur2) ∧ w'.cell? ⟨B, 6, none⟩ = some (.int .i64 c.Amount) ∧ w'.cell? ⟨B, 7, none⟩ = some (.int .i64 c.Amount2) := fun w' h =>
    ⟨obj_cell h rfl, obj_cell h rfl, obj_cell h rfl, obj_cell h rfl, obj_cell h rfl, obj_cell h rfl, obj_cell h rfl, obj_cell h rfl⟩
  obtain ⟨p0, p1, p2, p3, p4, p5, p6, p7⟩ := hcell v hbx
  replace hv := Lib.hid hv
  replace hB := Lib.hid hB
  replace hB0 := Lib.hid hB0
  replace hbx := Lib.hid hbx
  replace cL := Lib.hid cL
  replace arr0 := Lib.hid arr0
  replace hcell := Lib.hid hcell
  cases hm : mayC c with
  | false =>
    rw [hm] at cM
    replace cM := Lib.hid cM
    replace hm := Lib.hid hm
    go_enter Try.func8, Try.ntmps8
    go_upto_region 1 with (fail)
    rw [hB.out]
    change Code.wp _ _ _ _ (w.alloc (.cells #[.int .i64 c.Kind, .int .i64 c.Member, .int .i64 c.Id, .int .i64 c.Other, .int .i64 c.Cur, .int .i64 c.Cur2, .int .i64 c.Amount, .int .i64 c.Amount2] 23))
    rw [hv.out]
    go_wp2_with fail
    with_reducible refine (cM.out _).mono ?_
    rintro e w1 ⟨rfl, hb1⟩
    have hB1 : Below B w w1 := hB0.out.trans (hb1.mono (Nat.le_of_lt (obj_lt hbx.out)))
    replace hb1 := Lib.hid hb1
    replace hB1 := Lib.hid hB1
    go_wp2_with fail
    go_ret2
    exact ⟨rfl, hB1.out⟩
  | true =>
    rw [hm] at cM
    replace cM := Lib.hid cM
    replace hm := Lib.hid hm
    go_enter Try.func8, Try.ntmps8
    go_upto_region 1 with (fail)
    rw [hB.out]
    change Code.wp _ _ _ _ (w.alloc (.cells #[.int .i64 c.Kind, .int .i64 c.Member, .int .i64 c.Id, .int .i64 c.Other, .int .i64 c.Cur, .int .i64 c.Cur2, .int .i64 c.Amount, .int .i64 c.Amount2] 23))
    rw [hv.out]
    go_wp2_with fail
    with_reducible refine (cM.out _).mono ?_
    rintro e w1 ⟨rfl, hb1⟩
    have hB1 : Below B w w1 := hB0.out.trans (hb1.mono (Nat.le_of_lt (obj_lt hbx.out)))
    have hbx1 := (hb1.block B (obj_lt hbx.out)).trans hbx.out
    obtain ⟨r0, r1, r2, r3, r4, r5, r6, r7⟩ := hcell.out w1 hbx1
    replace hb1 := Lib.hid hb1
    replace hB1 := Lib.hid hB1
    replace hbx1 := Lib.hid hbx1
    go_wp2_with fail
    with_reducible refine (cL.out _).mono ?_
    rintro e w2 ⟨rfl, hb2⟩
    have hB2 : Below B w w2 := hB1.out.trans (hb2.mono (Nat.le_of_lt (obj_lt hbx1.out)))
    replace hb2 := Lib.hid hb2
    replace hB2 := Lib.hid hB2
    go_wp2_with fail
    go_ret2
    exact ⟨rfl, hB2.out⟩
/-- the program's commands keep to what they must -/
theorem theWI : WI := ⟨fun c w hc => may_any c hc w, fun c w hc => put_any c hc w, fun s w hs => take_any s w hs⟩
end Go.Proofs.Ytgcliallkfnhaaa
