/- There and back: the law's walk over any wire that keeps its contracts. -/
import Derived.Test.YtgcliallkfnhaaaWL3
import Derived.Deep.DeepCutAuto
namespace Go.Proofs.Ytgcliallkfnhaaa
open Go.RowKit
set_option linter.unusedVariables false

theorem neq_cmd (c : Cmd) (w : World) : (binOp .neq 23 (.agg #[.int .i64 c.Kind, .int .i64 c.Member, .int .i64 c.Id, .int .i64 c.Other, .int .i64 c.Cur, .int .i64 c.Cur2, .int .i64 c.Amount, .int .i64 c.Amount2]) (.agg #[.int .i64 c.Kind, .int .i64 c.Member, .int .i64 c.Id, .int .i64 c.Other, .int .i64 c.Cur, .int .i64 c.Cur2, .int .i64 c.Amount, .int .i64 c.Amount2])).run Try.prog w = .ok (.bool false) w := by
  have e0 := Try.underlying3
  have e1 := Try.underlying2
  rw [run_neq_struct, run_equalIn_agg w 9999 23 _ _ eq23a eq23b, eq23d]
  simp [Op.eqFields, go_sem, e0, e1]
theorem putV_two (c : Cmd) : (mayC c = true ∧ putV c = .tuple #[.string ⟨(putC c).toArray⟩, .int .i64 0]) ∨ (mayC c = false ∧ putV c = .tuple #[.string ⟨#[]⟩, .int .i64 2]) := by
  unfold putV
  cases h : mayC c
  · exact .inr ⟨rfl, rfl⟩
  · exact .inl ⟨rfl, rfl⟩
theorem putPV_two (r : Rep) : (mayP r = true ∧ putPV r = .tuple #[.string ⟨(putP r).toArray⟩, .int .i64 0]) ∨ (mayP r = false ∧ putPV r = .tuple #[.string ⟨#[]⟩, .int .i64 2]) := by
  unfold putPV
  cases h : mayP r
  · exact .inr ⟨rfl, rfl⟩
  · exact .inl ⟨rfl, rfl⟩

set_option maxHeartbeats 8000000 in
set_option maxRecDepth 100000 in
theorem wireBack_any (I : WI) (J : PI) (c : Cmd) (hc : c.In) (r : Rep) (p : Option Addr) (cap : Nat) (hrv : -9223372036854775808 ≤ r.Value ∧ r.Value ≤ 9223372036854775807) (hrn : r.Ids.length ≤ 4611686018427387904) (s : ByteArray) (hs : s.size ≤ 140737488351232) (w : World) (hz : ZRow w p r.Ids.length r.Ids) :
    Calls Try.prog 5 #[.agg c.arr, .agg (repArr r p cap), .string s] w fun e w' => e = .returned (.bool true) ∧ Below w.heap.size w w' := by
  have hA := fun w => awakeW_any I J w
  have hI := Lib.hid I
  have hJ := Lib.hid J
  have hW0 : Below w.heap.size w (w.alloc (.cells c.arr 23)) := (Below.refl _ _).alloc (Nat.le_refl _) _
  have hbx0 := heap_alloc_new w (.cells c.arr 23)
  generalize hwa : w.alloc (.cells c.arr 23) = wa at *
  have hW1 : Below wa.heap.size wa (wa.alloc (.cells (repArr r p cap) 40)) := (Below.refl _ _).alloc (Nat.le_refl _) _
  have hby0 := heap_alloc_new wa (.cells (repArr r p cap) 40)
  generalize hwb : wa.alloc (.cells (repArr r p cap) 40) = wb at *
  have hbxb := (hW1.block w.heap.size (obj_lt hbx0)).trans hbx0
  have hWb : Below w.heap.size w wb := hW0.trans (hW1.mono hW0.size)
  have hs0 : wa.heap.size = w.heap.size + 1 := by rw [← hwa]; simp
  have hzb := hz.kept hWb
  rw [hs0] at hby0
  clear hbx0 hW0 hW1
  generalize hB : w.heap.size = B at *
  unfold Cmd.arr repArr at *
  replace hA := Lib.hid hA
  replace hwa := Lib.hid hwa
  replace hwb := Lib.hid hwb
  replace hs0 := Lib.hid hs0
  replace hB := Lib.hid hB
  replace hbxb := Lib.hid hbxb
  replace hby0 := Lib.hid hby0
  replace hWb := Lib.hid hWb
  replace hzb := Lib.hid hzb
  replace hz := Lib.hid hz
  clear I J
  go_enter Try.func5, Try.ntmps5
  go_upto_region 1 with (fail)
  rw [hB.out]
  change Code.wp _ _ _ _ ((w.alloc (.cells #[.int .i64 c.Kind, .int .i64 c.Member, .int .i64 c.Id, .int .i64 c.Other, .int .i64 c.Cur, .int .i64 c.Cur2, .int .i64 c.Amount, .int .i64 c.Amount2] 23)).alloc (.cells #[.int .i64 r.E, .int .i64 r.Value, .slice p r.Ids.length cap] 40))
  rw [hwa.out, hwb.out]
  go_upto_region 3 with (first | (go_at_call 7; refine (hA.out _).mono ?_; rintro e v1 ⟨rfl, hb1⟩))
  have hbx1 := (hb1.block B (obj_lt hbxb.out)).trans hbxb.out
  have hby1 := (hb1.block (B + 1) (obj_lt hby0.out)).trans hby0.out
  have hW1 : Below B w v1 := hWb.out.trans (hb1.mono (by have := obj_lt hbxb.out; omega))
  have hz1 := hzb.out.kept hb1
  have hbl := obj_lt hbx1
  have hbl2 := obj_lt hby1
  clear hwa hwb hs0 hbxb hby0 hWb hzb hb1 hA
  have y2 : v1.cell? ⟨B + 1, 2, none⟩ = some (.slice p r.Ids.length cap) := obj_cell hby1 rfl
  replace hbx1 := Lib.hid hbx1
  replace hby1 := Lib.hid hby1
  replace hz1 := Lib.hid hz1
  replace hW1 := Lib.hid hW1
  by_cases h300 : 300 < r.Ids.length
  · have h3 : (300 : Int) < (r.Ids.length : Int) := by omega
    generalize r.Ids.length = n at *
    go_wp2_with fail
    go_ret
    exact ⟨rfl, hW1.out⟩
  have h3 : ¬ (300 : Int) < (r.Ids.length : Int) := by omega
  by_cases h2000 : 2000 < s.size
  · have h4 : (2000 : Int) < (s.size : Int) := by omega
    generalize r.Ids.length = n at *
    go_wp2_with fail
    go_ret
    exact ⟨rfl, hW1.out⟩
  have h4 : ¬ (2000 : Int) < (s.size : Int) := by omega
  have cP := fun w => hI.out.put c w hc
  have cM := fun w => hI.out.may c w hc
  unfold Cmd.arr at cP cM
  obtain ⟨PS, pe, hput⟩ := putV_ex c
  have hp2 := putV_two c
  rw [hput] at cP hp2
  replace cP := Lib.hid cP
  replace cM := Lib.hid cM
  replace hp2 := Lib.hid hp2
  replace hput := Lib.hid hput
  have hN0 : Hid (Below v1.heap.size v1 v1) := Lib.hid (Below.refl _ _)
  have d0 : v1.cell? ⟨B, 0, none⟩ = some (.int .i64 c.Kind) := obj_cell hbx1.out rfl
  have d1 : v1.cell? ⟨B, 1, none⟩ = some (.int .i64 c.Member) := obj_cell hbx1.out rfl
  have d2 : v1.cell? ⟨B, 2, none⟩ = some (.int .i64 c.Id) := obj_cell hbx1.out rfl
  have d3 : v1.cell? ⟨B, 3, none⟩ = some (.int .i64 c.Other) := obj_cell hbx1.out rfl
  have d4 : v1.cell? ⟨B, 4, none⟩ = some (.int .i64 c.Cur) := obj_cell hbx1.out rfl
  have d5 : v1.cell? ⟨B, 5, none⟩ = some (.int .i64 c.Cur2) := obj_cell hbx1.out rfl
  have d6 : v1.cell? ⟨B, 6, none⟩ = some (.int .i64 c.Amount) := obj_cell hbx1.out rfl
  have d7 : v1.cell? ⟨B, 7, none⟩ = some (.int .i64 c.Amount2) := obj_cell hbx1.out rfl
  go_upto_if 40 with (first | (go_at_call 8; (with_reducible refine (cP.out _).mono ?_); rintro e v2 ⟨rfl, hb2⟩))
  have hx2 := (hb2.block B hbl).trans hbx1.out
  replace hx2 := Lib.hid hx2
  replace hb2 := Lib.hid hb2
  go_cut [] (fun wc => Hid (Below v1.heap.size v1 wc))
  case first =>
    rcases hp2.out with ⟨hm, he⟩ | ⟨hm, he⟩
    · injection he with he
      have ha : PS = ⟨(putC c).toArray⟩ ∧ pe = 0 := by simpa using he
      obtain ⟨rfl, rfl⟩ := ha
      have ct := fun w => hI.out.take (⟨(putC c).toArray⟩ : ByteArray) w (by rw [mk_size]; have := putC_le c; omega)
      rw [bl_mk, take_put hc hm] at ct
      unfold takeV Cmd.arr at ct
      simp only at ct
      have hne := neq_cmd c
      generalize (⟨(putC c).toArray⟩ : ByteArray) = S at *
      replace ct := Lib.hid ct
      replace hm := Lib.hid hm
      go_wp2_with fail
      with_reducible refine (ct.out _).mono ?_
      rintro e v3 ⟨rfl, hb3⟩
      have hb3' := hb2.out.trans (hb3.mono hb2.out.size)
      have hx3 := (hb3.block B (obj_lt hx2.out)).trans hx2.out
      have x0 : v3.cell? ⟨B, 0, none⟩ = some (.int .i64 c.Kind) := obj_cell hx3 rfl
      have x1 : v3.cell? ⟨B, 1, none⟩ = some (.int .i64 c.Member) := obj_cell hx3 rfl
      have x2 : v3.cell? ⟨B, 2, none⟩ = some (.int .i64 c.Id) := obj_cell hx3 rfl
      have x3 : v3.cell? ⟨B, 3, none⟩ = some (.int .i64 c.Other) := obj_cell hx3 rfl
      have x4 : v3.cell? ⟨B, 4, none⟩ = some (.int .i64 c.Cur) := obj_cell hx3 rfl
      have x5 : v3.cell? ⟨B, 5, none⟩ = some (.int .i64 c.Cur2) := obj_cell hx3 rfl
      have x6 : v3.cell? ⟨B, 6, none⟩ = some (.int .i64 c.Amount) := obj_cell hx3 rfl
      have x7 : v3.cell? ⟨B, 7, none⟩ = some (.int .i64 c.Amount2) := obj_cell hx3 rfl
      have hM : Hid (Below v1.heap.size v1 (v3.alloc (.cells #[.int .i64 c.Kind, .int .i64 c.Member, .int .i64 c.Id, .int .i64 c.Other, .int .i64 c.Cur, .int .i64 c.Cur2, .int .i64 c.Amount, .int .i64 c.Amount2] 23))) := Lib.hid (hb3'.alloc hb3'.size _)
      have hx3l := obj_lt hx3
      replace hx3 := Lib.hid hx3
      replace hb3 := Lib.hid hb3
      replace hb3' := Lib.hid hb3'
      go_wp2_with fail
      go_meet
      case rel => exact hM
    · injection he with he
      have ha : PS = ⟨#[]⟩ ∧ pe = 2 := by simpa using he
      obtain ⟨rfl, rfl⟩ := ha
      have cm := cM.out
      rw [hm] at cm
      replace cm := Lib.hid cm
      have x0 : v2.cell? ⟨B, 0, none⟩ = some (.int .i64 c.Kind) := obj_cell hx2.out rfl
      have x1 : v2.cell? ⟨B, 1, none⟩ = some (.int .i64 c.Member) := obj_cell hx2.out rfl
      have x2 : v2.cell? ⟨B, 2, none⟩ = some (.int .i64 c.Id) := obj_cell hx2.out rfl
      have x3 : v2.cell? ⟨B, 3, none⟩ = some (.int .i64 c.Other) := obj_cell hx2.out rfl
      have x4 : v2.cell? ⟨B, 4, none⟩ = some (.int .i64 c.Cur) := obj_cell hx2.out rfl
      have x5 : v2.cell? ⟨B, 5, none⟩ = some (.int .i64 c.Cur2) := obj_cell hx2.out rfl
      have x6 : v2.cell? ⟨B, 6, none⟩ = some (.int .i64 c.Amount) := obj_cell hx2.out rfl
      have x7 : v2.cell? ⟨B, 7, none⟩ = some (.int .i64 c.Amount2) := obj_cell hx2.out rfl
      go_wp2_with fail
      with_reducible refine (cm.out _).mono ?_
      rintro e v3 ⟨rfl, hb3⟩
      have hM : Hid (Below v1.heap.size v1 v3) := Lib.hid (hb2.out.trans (hb3.mono hb2.out.size))
      replace hb3 := Lib.hid hb3
      go_wp2_with fail
      go_meet
      case rel => exact hM
  case rest =>
    obtain ⟨d, te, htake⟩ := takeV_ex (takeC (bl s))
    have ct2 := fun w => hI.out.take s w (by omega)
    rw [htake] at ct2
    unfold Cmd.arr at ct2 htake
    have hss : (s.toList == s.toList) = true := by simp
    replace ct2 := Lib.hid ct2
    replace htake := Lib.hid htake
    go_upto_if 65 with (first | (go_at_call 11; (with_reducible refine (ct2.out _).mono ?_); rintro e v3 ⟨rfl, hb3⟩))
    have hb3' := hcut.out.trans (hb3.mono hcut.out.size)
    have hM : Hid (Below v1.heap.size v1 (v3.alloc (.cells #[.int .i64 d.Kind, .int .i64 d.Member, .int .i64 d.Id, .int .i64 d.Other, .int .i64 d.Cur, .int .i64 d.Cur2, .int .i64 d.Amount, .int .i64 d.Amount2] 23))) := Lib.hid (hb3'.alloc hb3'.size _)
    replace hb3 := Lib.hid hb3
    replace hb3' := Lib.hid hb3'
    go_cut [] (fun wc2 => Hid (Below v1.heap.size v1 wc2))
    case first =>
      cases hts : takeC (bl s) with
      | none =>
        have h := htake.out
        rw [hts] at h
        have he : te = 2 := by unfold takeV at h; simp at h; exact h.2.symm
        subst he
        replace hts := Lib.hid hts
        go_wp2_with fail
        go_meet
        case rel => exact hM
      | some d2 =>
        have h := htake.out
        rw [hts] at h
        obtain ⟨hd1, hd2, hd3⟩ := put_take hts
        have hte : te = 0 := by unfold takeV at h; simp at h; exact h.2.symm
        have hdd : #[Value.int .i64 d2.Kind, .int .i64 d2.Member, .int .i64 d2.Id, .int .i64 d2.Other, .int .i64 d2.Cur, .int .i64 d2.Cur2, .int .i64 d2.Amount, .int .i64 d2.Amount2] = #[.int .i64 d.Kind, .int .i64 d.Member, .int .i64 d.Id, .int .i64 d.Other, .int .i64 d.Cur, .int .i64 d.Cur2, .int .i64 d.Amount, .int .i64 d.Amount2] := by unfold takeV Cmd.arr at h; simp at h; simp [h]
        subst hte
        have cp := fun w => hI.out.put d2 w hd3
        have hpv : putV d2 = .tuple #[.string s, .int .i64 0] := by unfold putV; rw [if_pos hd2]; unfold sv; rw [hd1, mk_bl]
        unfold Cmd.arr at cp
        rw [hpv, hdd] at cp
        replace cp := Lib.hid cp
        replace hts := Lib.hid hts
        replace hpv := Lib.hid hpv
        replace hdd := Lib.hid hdd
        clear h
        go_wp2_with fail
        with_reducible refine (cp.out _).mono ?_
        rintro e v4 ⟨rfl, hb4⟩
        have hM2 : Hid (Below v1.heap.size v1 v4) := Lib.hid (hM.out.trans (hb4.mono hM.out.size))
        replace hb4 := Lib.hid hb4
        go_wp2_with fail
        go_meet
        case rel => exact hM2
    case rest =>
      have hcc := hcut.out
      have hyc := (hcc.block (B + 1) hbl2).trans hby1.out
      have y0c := obj_cell (i := 0) (v := .int .i64 r.E) hyc rfl
      have y1c := obj_cell (i := 1) (v := .int .i64 r.Value) hyc rfl
      have y2c := obj_cell (i := 2) (v := .slice p r.Ids.length cap) hyc rfl
      have hzc := hz1.out.kept hcc
      have cR := hJ.out.put r p cap _ hzc hrn
      unfold repArr at cR
      have hr2 := putPV_two r
      obtain ⟨RS, re, hrput⟩ : ∃ (S : ByteArray) (e : Int), putPV r = .tuple #[.string S, .int .i64 e] := by
        rcases hr2 with ⟨_, h⟩ | ⟨_, h⟩ <;> exact ⟨_, _, h⟩
      rw [hrput] at cR hr2
      have hlr : (putP r).length ≤ 2000 := by rw [putP_length]; omega
      replace cR := Lib.hid cR
      replace hr2 := Lib.hid hr2
      replace hrput := Lib.hid hrput
      replace hyc := Lib.hid hyc
      replace hzc := Lib.hid hzc
      replace hcc := Lib.hid hcc
      generalize hnn : r.Ids.length = n at *
      replace hnn := Lib.hid hnn
      go_upto_if 84 with (first | (go_at_call 15; (with_reducible refine cR.out.mono ?_); rintro e v5 ⟨rfl, hb5⟩))
      have hb5' : Hid (Below v1.heap.size v1 v5) := Lib.hid (hcc.out.trans (hb5.mono hcc.out.size))
      replace hb5 := Lib.hid hb5
      go_cut [] (fun wc3 => Hid (Below v1.heap.size v1 wc3))
      case first =>
        rcases hr2.out with ⟨hm, he⟩ | ⟨hm, he⟩
        · injection he with he
          have ha : RS = ⟨(putP r).toArray⟩ ∧ re = 0 := by simpa using he
          obtain ⟨rfl, rfl⟩ := ha
          have ct := fun w => hJ.out.take (⟨(putP r).toArray⟩ : ByteArray) w (by rw [mk_size]; omega)
          rw [bl_mk, takeP_put hrv hm] at ct
          unfold repArr at ct
          simp only at ct
          rw [hnn.out] at ct
          generalize (⟨(putP r).toArray⟩ : ByteArray) = RS at *
          replace ct := Lib.hid ct
          replace hm := Lib.hid hm
          go_wp2_with fail
          with_reducible refine (ct.out _).mono ?_
          rintro e v6 ⟨⟨p6, cap6, rfl, hz6⟩, hb6⟩
          have hb6' := hb5'.out.trans (hb6.mono hb5'.out.size)
          have hal := (Below.refl v6.heap.size v6).alloc (Nat.le_refl _) (.cells #[.int .i64 r.E, .int .i64 r.Value, .slice p6 n cap6] 40)
          have hM : Below v1.heap.size v1 (v6.alloc (.cells #[.int .i64 r.E, .int .i64 r.Value, .slice p6 n cap6] 40)) := hb6'.alloc hb6'.size _
          have hy6 := (hM.block (B + 1) hbl2).trans hby1.out
          have hz7 := hz6.kept hal
          have hz8 := hz1.out.kept hM
          try rw [hnn.out] at hz8
          have oR := heap_alloc_new v6 (.cells #[.int .i64 r.E, .int .i64 r.Value, .slice p6 n cap6] 40)
          generalize hv7 : v6.alloc (.cells #[.int .i64 r.E, .int .i64 r.Value, .slice p6 n cap6] 40) = v7 at *
          generalize hgR : v6.heap.size = gR at *
          have a0 : v7.cell? ⟨gR, 0, none⟩ = some (.int .i64 r.E) := obj_cell oR rfl
          have a1 : v7.cell? ⟨gR, 1, none⟩ = some (.int .i64 r.Value) := obj_cell oR rfl
          have a2 : v7.cell? ⟨gR, 2, none⟩ = some (.slice p6 n cap6) := obj_cell oR rfl
          try rw [hnn.out] at hy6
          have b0 : v7.cell? ⟨B + 1, 0, none⟩ = some (.int .i64 r.E) := obj_cell hy6 rfl
          have b1 : v7.cell? ⟨B + 1, 1, none⟩ = some (.int .i64 r.Value) := obj_cell hy6 rfl
          have b2 : v7.cell? ⟨B + 1, 2, none⟩ = some (.slice p n cap) := obj_cell hy6 rfl
          have cI := intsR_any p6 p n n cap6 cap r.Ids r.Ids v7 hz7 hz8 (by omega)
          rw [decide_eq_true rfl] at cI
          have hE1 : (r.E == r.E) = true := by simp
          have hE2 : (r.E != r.E) = false := by simp
          have hV1 : (r.Value == r.Value) = true := by simp
          have hV2 : (r.Value != r.Value) = false := by simp
          generalize r.E = E at *
          generalize r.Value = V at *
          replace hv7 := Lib.hid hv7
          replace hgR := Lib.hid hgR
          replace hM := Lib.hid hM
          replace hal := Lib.hid hal
          replace cI := Lib.hid cI
          replace hz6 := Lib.hid hz6
          replace hz7 := Lib.hid hz7
          replace hz8 := Lib.hid hz8
          replace oR := Lib.hid oR
          replace hy6 := Lib.hid hy6
          replace hb6 := Lib.hid hb6
          replace hb6' := Lib.hid hb6'
          go_upto_region 20 with (fail)
          rw [hgR.out]
          change Code.wp _ _ _ _ (v6.alloc (.cells #[.int .i64 E, .int .i64 V, .slice p6 n cap6] 40))
          rw [hv7.out]
          go_wp2_with fail
          with_reducible refine cI.out.mono ?_
          rintro e v8 ⟨rfl, hb8⟩
          have hM8 : Hid (Below v1.heap.size v1 v8) := Lib.hid (hM.out.trans (hb8.mono hM.out.size))
          replace hb8 := Lib.hid hb8
          go_wp2_with fail
          go_meet
          case rel => exact hM8
        · injection he with he
          have ha : RS = ⟨#[]⟩ ∧ re = 2 := by simpa using he
          obtain ⟨rfl, rfl⟩ := ha
          go_wp2_with fail
          go_meet
          case rel => exact hb5'
      case rest =>
        have hcc2 := hcut.out
        replace hcc2 := Lib.hid hcc2
        have ct4 := fun w => hJ.out.take s w (by omega)
        cases htp : takeP (bl s) with
        | none =>
          rw [htp] at ct4
          unfold noRep at ct4
          simp only at ct4
          replace ct4 := Lib.hid ct4
          replace htp := Lib.hid htp
          go_wp2_with fail
          with_reducible refine (ct4.out _).mono ?_
          rintro e v9 ⟨rfl, hb9⟩
          have hb9' := hcc2.out.trans (hb9.mono hcc2.out.size)
          have hM9 : Hid (Below B w (v9.alloc (.cells #[.int .i64 0, .int .i64 0, .slice none 0 0] 40))) := Lib.hid ((hW1.out.trans (hb9'.mono (by omega))).alloc (Nat.le_trans (by omega) hb9'.size) _)
          replace hb9 := Lib.hid hb9
          replace hb9' := Lib.hid hb9'
          go_wp2_with fail
          go_ret
          exact ⟨rfl, hM9.out⟩
        | some r2 =>
          rw [htp] at ct4
          obtain ⟨hq1, hq2, hq3⟩ := putP_take htp
          have hq4 := (mayP_iff r2).1 hq2
          unfold repArr at ct4
          simp only at ct4
          have hpv : putPV r2 = .tuple #[.string s, .int .i64 0] := by unfold putPV; rw [if_pos hq2]; unfold sv; rw [hq1, mk_bl]
          have cput := fun p cap w h => hJ.out.put r2 p cap w h (by omega)
          rw [hpv] at cput
          unfold repArr at cput
          replace ct4 := Lib.hid ct4
          replace htp := Lib.hid htp
          replace hpv := Lib.hid hpv
          replace cput := Lib.hid cput
          generalize r2.Ids.length = m at *
          go_wp2_with fail
          with_reducible refine (ct4.out _).mono ?_
          rintro e v9 ⟨⟨p9, cap9, rfl, hz9⟩, hb9⟩
          have hb9' := hcc2.out.trans (hb9.mono hcc2.out.size)
          have hal := (Below.refl v9.heap.size v9).alloc (Nat.le_refl _) (.cells #[.int .i64 r2.E, .int .i64 r2.Value, .slice p9 m cap9] 40)
          have hM9 : Hid (Below B w (v9.alloc (.cells #[.int .i64 r2.E, .int .i64 r2.Value, .slice p9 m cap9] 40))) := Lib.hid ((hW1.out.trans (hb9'.mono (by omega))).alloc (Nat.le_trans (by omega) hb9'.size) _)
          have hz10 := hz9.kept hal
          have cp9 := cput.out p9 cap9 _ hz10
          have hMs : B ≤ (v9.alloc (.cells #[.int .i64 r2.E, .int .i64 r2.Value, .slice p9 m cap9] 40)).heap.size := Nat.le_trans (Nat.le_trans (by omega) hb9'.size) hal.size
          replace cp9 := Lib.hid cp9
          replace hz9 := Lib.hid hz9
          replace hz10 := Lib.hid hz10
          replace hal := Lib.hid hal
          replace hb9 := Lib.hid hb9
          replace hb9' := Lib.hid hb9'
          replace hMs := Lib.hid hMs
          go_wp2_with fail
          with_reducible refine cp9.out.mono ?_
          rintro e v10 ⟨rfl, hb10⟩
          have hfin : Hid (Below B w v10) := Lib.hid (hM9.out.trans (hb10.mono hMs.out))
          replace hb10 := Lib.hid hb10
          go_wp2_with fail
          go_ret
          exact ⟨rfl, hfin.out⟩
end Go.Proofs.Ytgcliallkfnhaaa
