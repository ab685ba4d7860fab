/- What the program's wire must keep to; bytes with one more or one less: the law's walk over any wire that keeps its contracts. -/
import Derived.Test.YtgcliallkfnhaaaW5
namespace Go.Proofs.Ytgcliallkfnhaaa
open Go.RowKit
set_option linter.unusedVariables false

/-- the program's commands: what its functions keep to -/
structure WI : Prop where
  may : ∀ (c : Cmd) (w : World), c.In → Calls Try.prog 13 #[.agg c.arr] w fun e w' => e = .returned (.bool (mayC c)) ∧ Below w.heap.size w w'
  put : ∀ (c : Cmd) (w : World), c.In → Calls Try.prog 8 #[.agg c.arr] w fun e w' => e = .returned (putV c) ∧ Below w.heap.size w w'
  take : ∀ (s : ByteArray) (w : World), s.size ≤ 1000000 → Calls Try.prog 11 #[.string s] w fun e w' => e = .returned (takeV (takeC (bl s))) ∧ Below w.heap.size w w'
theorem cut_text (l : List UInt8) (q : Nat) : (⟨l.toArray⟩ : ByteArray).extract 0 q = ⟨(l.take q).toArray⟩ := by
  apply ByteArray.ext
  simp
theorem putC_le (c : Cmd) : (putC c).length ≤ 61 := by
  have := pieces_le c 7 (by omega)
  rw [putC, List.length_cons]
  omega

set_option maxHeartbeats 4000000 in
set_option maxRecDepth 100000 in
theorem wireCut_any (I : WI) (hA : ∀ w, Calls Try.prog 7 #[] w fun e w' => e = .returned (.bool true) ∧ Below w.heap.size w w') (c : Cmd) (hc : c.In) (x : UInt8) (w : World) :
    Calls Try.prog 6 #[.agg c.arr, .int .u8 (x.toNat : Int)] w fun e w' => e = .returned (.bool true) ∧ Below w.heap.size w w' := by
  have hA := Lib.hid hA
  have hI := Lib.hid I
  have cP := fun w => I.put c w hc
  have hB0 : Below w.heap.size w (w.alloc (.cells c.arr 23)) := (Below.refl _ _).alloc (Nat.le_refl _) _
  have hbx : (w.alloc (.cells c.arr 23)).heap[w.heap.size]? = some (.cells c.arr 23 (0, 0)) := heap_alloc_new w _
  unfold Cmd.arr at *
  generalize hv : w.alloc (.cells #[.int .i64 c.Kind, .int .i64 c.Member, .int .i64 c.Id, .int .i64 c.Other, .int .i64 c.Cur, .int .i64 c.Cur2, .int .i64 c.Amount, .int .i64 c.Amount2] 23) = v at *
  generalize hB : w.heap.size = B at *
  have hvb := obj_lt hbx
  replace hv := Lib.hid hv
  replace hB := Lib.hid hB
  replace hB0 := Lib.hid hB0
  replace hbx := Lib.hid hbx
  replace cP := Lib.hid cP
  clear I
  go_enter Try.func6, Try.ntmps6
  go_upto_region 1 with (fail)
  rw [hB.out]
  change Code.wp _ _ _ _ (w.alloc (.cells #[.int .i64 c.Kind, .int .i64 c.Member, .int .i64 c.Id, .int .i64 c.Other, .int .i64 c.Cur, .int .i64 c.Cur2, .int .i64 c.Amount, .int .i64 c.Amount2] 23))
  rw [hv.out]
  go_upto_region 3 with (first | (go_at_call 7; (refine (hA.out _).mono ?_); rintro e v1 ⟨rfl, hb1⟩))
  have hbx1 := (hb1.block B hvb).trans hbx.out
  have hB1 : Below B w v1 := hB0.out.trans (hb1.mono (by omega))
  have d0 : v1.cell? ⟨B, 0, none⟩ = some (.int .i64 c.Kind) := obj_cell hbx1 rfl
  have d1 : v1.cell? ⟨B, 1, none⟩ = some (.int .i64 c.Member) := obj_cell hbx1 rfl
  have d2 : v1.cell? ⟨B, 2, none⟩ = some (.int .i64 c.Id) := obj_cell hbx1 rfl
  have d3 : v1.cell? ⟨B, 3, none⟩ = some (.int .i64 c.Other) := obj_cell hbx1 rfl
  have d4 : v1.cell? ⟨B, 4, none⟩ = some (.int .i64 c.Cur) := obj_cell hbx1 rfl
  have d5 : v1.cell? ⟨B, 5, none⟩ = some (.int .i64 c.Cur2) := obj_cell hbx1 rfl
  have d6 : v1.cell? ⟨B, 6, none⟩ = some (.int .i64 c.Amount) := obj_cell hbx1 rfl
  have d7 : v1.cell? ⟨B, 7, none⟩ = some (.int .i64 c.Amount2) := obj_cell hbx1 rfl
  have hbB1 := obj_lt hbx1
  replace hb1 := Lib.hid hb1
  replace hB1 := Lib.hid hB1
  replace hbx1 := Lib.hid hbx1
  by_cases hm : mayC c = true
  · have hpv : putV c = .tuple #[sv (putC c), .int .i64 0] := by unfold putV; rw [if_pos hm]
    have hl61 := putC_le c
    have hl2 : 2 ≤ (putC c).length := by rw [put_length]; exact pos_two ((mayC_iff c).1 hm).1
    have hmore := take_more hm x
    have hless := take_less hm
    have hS : (⟨(putC c).toArray⟩ : ByteArray).size = (putC c).length := mk_size _
    have hj := fun w => join_texts (putC c) [x] w (by simp; omega)
    have hx1 : (⟨(putC c ++ [x]).toArray⟩ : ByteArray).size = (putC c).length + 1 := by rw [mk_size]; simp
    have hct := cut_text (putC c) ((putC c).length - 1)
    have hx2 : (⟨((putC c).take ((putC c).length - 1)).toArray⟩ : ByteArray).size ≤ 61 := by rw [mk_size, List.length_take]; omega
    have b1 : bl (⟨(putC c ++ [x]).toArray⟩ : ByteArray) = putC c ++ [x] := bl_mk _
    have b2 : bl (⟨((putC c).take ((putC c).length - 1)).toArray⟩ : ByteArray) = (putC c).take ((putC c).length - 1) := bl_mk _
    have t1 := fun w => hI.out.take (⟨(putC c ++ [x]).toArray⟩ : ByteArray) w (by omega)
    have t2 := fun w => hI.out.take (⟨((putC c).take ((putC c).length - 1)).toArray⟩ : ByteArray) w (by omega)
    rw [b1, hmore] at t1
    rw [b2, hless] at t2
    unfold sv at hpv
    generalize (⟨(putC c ++ [x]).toArray⟩ : ByteArray) = S1 at *
    generalize (⟨((putC c).take ((putC c).length - 1)).toArray⟩ : ByteArray) = S2 at *
    generalize (⟨(putC c).toArray⟩ : ByteArray) = S at *
    generalize (putC c).length = n at *
    unfold takeV noCmd Cmd.arr at t1 t2
    simp only at t1 t2
    rw [hpv] at cP
    replace hpv := Lib.hid hpv
    replace hmore := Lib.hid hmore
    replace hless := Lib.hid hless
    replace b1 := Lib.hid b1
    replace b2 := Lib.hid b2
    replace t1 := Lib.hid t1
    replace t2 := Lib.hid t2
    go_wp2_with fail
    with_reducible refine (cP.out _).mono ?_
    rintro e v2 ⟨rfl, hb2⟩
    have hconv := bytes_text (v2.alloc (.cells #[.int .u8 (x.toNat : Int)] 5)) v2.heap.size 1 1 [x] (by
      unfold BRow Lib.byteCells
      exact heap_alloc_new v2 _) rfl
    have hb2' : Hid (Below v1.heap.size v1 (v2.alloc (.cells #[.int .u8 (x.toNat : Int)] 5))) := Lib.hid (hb2.alloc hb2.size _)
    generalize (⟨[x].toArray⟩ : ByteArray) = X at *
    replace hb2 := Lib.hid hb2
    have hn2 : ¬ (n : Int) < 2 := by omega
    go_wp2_with fail
    with_reducible refine (t1.out _).mono ?_
    rintro e v3 ⟨rfl, hb3⟩
    have hb3' : Hid (Below v1.heap.size v1 v3) := Lib.hid (hb2'.out.trans (hb3.mono hb2'.out.size))
    replace hb3 := Lib.hid hb3
    have hq1 : (S.size : Int) = (n : Int) := by omega
    have hq2 : (1 : Int) ≤ (S.size : Int) := by omega
    have hb3z : Hid (Below v1.heap.size v1 (v3.alloc (.cells #[.int .i64 0, .int .i64 0, .int .i64 0, .int .i64 0, .int .i64 0, .int .i64 0, .int .i64 0, .int .i64 0] 23))) := Lib.hid (hb3'.out.alloc hb3'.out.size _)
    go_wp2_with fail
    with_reducible refine (t2.out _).mono ?_
    rintro e v4 ⟨rfl, hb4⟩
    have hb4' : Below v1.heap.size v1 v4 := hb3z.out.trans (hb4.mono hb3z.out.size)
    have hb4z : Hid (Below B w (v4.alloc (.cells #[.int .i64 0, .int .i64 0, .int .i64 0, .int .i64 0, .int .i64 0, .int .i64 0, .int .i64 0, .int .i64 0] 23))) := Lib.hid ((hB1.out.trans (hb4'.mono (by omega))).alloc (Nat.le_trans (by omega) hb4'.size) _)
    replace hb4 := Lib.hid hb4
    replace hb4' := Lib.hid hb4'
    go_wp2_with fail
    go_ret
    exact ⟨rfl, hb4z.out⟩
  · have hpv : putV c = .tuple #[.string ⟨#[]⟩, .int .i64 2] := by unfold putV; rw [if_neg hm]
    rw [hpv] at cP
    replace hpv := Lib.hid hpv
    go_wp2_with fail
    with_reducible refine (cP.out _).mono ?_
    rintro e v2 ⟨rfl, hb2⟩
    replace hb2 := Lib.hid hb2
    go_wp2_with fail
    go_ret
    exact ⟨rfl, hB1.out.trans (hb2.out.mono (by omega))⟩
end Go.Proofs.Ytgcliallkfnhaaa
