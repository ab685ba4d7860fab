/- Commands' bytes: the law's walk over any wire that keeps its contracts. -/
import Derived.Test.YtgcliallkfnhaaaWL1
import Derived.Laws.StructEq
namespace Go.Proofs.Ytgcliallkfnhaaa
open Go.RowKit
set_option linter.unusedVariables false

theorem eq29a : Try.prog.underlying 29 = some (.struct (Try.prog.fieldsOf 29)) := by kernel_rfl
theorem eq29b : Try.prog.stoodInHeld 29 = false := by kernel_rfl
theorem eq29d : Try.prog.fieldsOf 29 = #[⟨"Kind", 3, 0, false, "", "", 0⟩, ⟨"Member", 3, 1, false, "", "", 8⟩, ⟨"Id", 3, 2, false, "", "", 16⟩, ⟨"Other", 3, 3, false, "", "", 24⟩, ⟨"Cur", 3, 4, false, "", "", 32⟩, ⟨"Cur2", 3, 5, false, "", "", 40⟩, ⟨"Amount", 2, 6, false, "", "", 48⟩, ⟨"Amount2", 2, 7, false, "", "", 56⟩] := by kernel_rfl
theorem eq29c : Try.prog.eqGuardType Try.prog.depth 29 = false := by kernel_rfl
theorem eql_cmd (c : Cmd) (w : World) : (binOp .eql 29 (.agg #[.int .i64 c.Kind, .int .i64 c.Member, .int .i64 c.Id, .int .i64 c.Other, .int .i64 c.Cur, .int .i64 c.Cur2, .int .i64 c.Amount, .int .i64 c.Amount2]) (.agg #[.int .i64 c.Kind, .int .i64 c.Member, .int .i64 c.Id, .int .i64 c.Other, .int .i64 c.Cur, .int .i64 c.Cur2, .int .i64 c.Amount, .int .i64 c.Amount2])).run Try.prog w = .ok (.bool true) w := by
  have e0 := Try.underlying3
  have e1 := Try.underlying2
  rw [run_eql_struct, run_equalIn_agg w 9999 29 _ _ eq29a eq29b, eq29d]
  simp [Op.eqFields, go_sem, e0, e1]
set_option maxHeartbeats 2000000 in
set_option maxRecDepth 100000 in
theorem own_any (c : Cmd) (w : World) : Calls Try.prog 10 #[.agg #[.int .i64 c.Kind, .int .i64 c.Member, .int .i64 c.Id, .int .i64 c.Other, .int .i64 c.Cur, .int .i64 c.Cur2, .int .i64 c.Amount, .int .i64 c.Amount2]] w fun e w' => e = .returned (.agg #[.int .i64 c.Kind, .int .i64 c.Member, .int .i64 c.Id, .int .i64 c.Other, .int .i64 c.Cur, .int .i64 c.Cur2, .int .i64 c.Amount, .int .i64 c.Amount2]) ∧ Below w.heap.size w w' := by
  have hB : Below w.heap.size w ((w.alloc (.cells #[.int .i64 c.Kind, .int .i64 c.Member, .int .i64 c.Id, .int .i64 c.Other, .int .i64 c.Cur, .int .i64 c.Cur2, .int .i64 c.Amount, .int .i64 c.Amount2] 23)).alloc (.cells #[.int .i64 c.Kind, .int .i64 c.Member, .int .i64 c.Id, .int .i64 c.Other, .int .i64 c.Cur, .int .i64 c.Cur2, .int .i64 c.Amount, .int .i64 c.Amount2] 29)) := ((Below.refl _ _).alloc (Nat.le_refl _) _).alloc (by simp) _
  have hg := heap_alloc_new (w.alloc (.cells #[.int .i64 c.Kind, .int .i64 c.Member, .int .i64 c.Id, .int .i64 c.Other, .int .i64 c.Cur, .int .i64 c.Cur2, .int .i64 c.Amount, .int .i64 c.Amount2] 23)) (.cells #[.int .i64 c.Kind, .int .i64 c.Member, .int .i64 c.Id, .int .i64 c.Other, .int .i64 c.Cur, .int .i64 c.Cur2, .int .i64 c.Amount, .int .i64 c.Amount2] 29)
  have e : (w.alloc (.cells #[.int .i64 c.Kind, .int .i64 c.Member, .int .i64 c.Id, .int .i64 c.Other, .int .i64 c.Cur, .int .i64 c.Cur2, .int .i64 c.Amount, .int .i64 c.Amount2] 23)).heap.size = w.heap.size + 1 := by simp
  rw [e] at hg
  replace hB := Lib.hid hB
  replace hg := Lib.hid hg
  replace e := Lib.hid e
  go_enter Try.func10, Try.ntmps10
  go_wp2_with fail
  (try simp only [Exit.inBlock, Exit.then])
  refine bodyPost_ret (results_cell_row (P := Try.prog) rfl _ _ _ _ _ _ _ rfl hg.out Try.underlying29 rfl (by kernel_rfl)) rfl ?_
  exact ⟨rfl, hB.out⟩
theorem putV_ex (c : Cmd) : ∃ (S : ByteArray) (e : Int), putV c = .tuple #[.string S, .int .i64 e] := by
  unfold putV
  split
  · exact ⟨_, _, rfl⟩
  · exact ⟨_, _, rfl⟩
theorem takeV_ex (o : Option Cmd) : ∃ (d : Cmd) (e : Int), takeV o = .tuple #[.agg d.arr, .int .i64 e] := by
  cases o with
  | none => exact ⟨_, _, rfl⟩
  | some d => exact ⟨_, _, rfl⟩

set_option maxHeartbeats 8000000 in
set_option maxRecDepth 100000 in
theorem wireCommands_any (I : WI) (hA : ∀ w, Calls Try.prog 7 #[] w fun e w' => e = .returned (.bool true) ∧ Below w.heap.size w w') (c : Cmd) (hc : c.In) (s : ByteArray) (hs : s.size ≤ 140737488351232) (w : World) :
    Calls Try.prog 3 #[.agg c.arr, .string s] w fun e w' => e = .returned (.bool true) ∧ Below w.heap.size w w' := by
  have hA := Lib.hid hA
  have cP := fun w => I.put c w hc
  have cM := fun w => I.may c w hc
  have cT := fun w h => I.take s w h
  have rP := putCR_any c
  have rM := mayCR_any c
  have rT := fun w h => takeCR_any s w h
  obtain ⟨PS, pe, hput⟩ := putV_ex c
  obtain ⟨d, te, htake⟩ := takeV_ex (takeC (bl s))
  rw [hput] at cP rP
  rw [htake] at cT rT
  have oC := own_any c
  have oD := own_any d
  have eqD := eql_cmd d
  have hB0 : Below w.heap.size w (w.alloc (.cells c.arr 23)) := (Below.refl _ _).alloc (Nat.le_refl _) _
  have hbx : (w.alloc (.cells c.arr 23)).heap[w.heap.size]? = some (.cells c.arr 23 (0, 0)) := heap_alloc_new w _
  unfold Cmd.arr at *
  generalize mayC c = mb at *
  have hmb : (mb == mb) = true := by cases mb <;> rfl
  have hPS : (PS.toList == PS.toList) = true := by simp
  have hpe : (pe == pe) = true := by simp
  have hte : (te == te) = true := by simp
  generalize hv : w.alloc (.cells #[.int .i64 c.Kind, .int .i64 c.Member, .int .i64 c.Id, .int .i64 c.Other, .int .i64 c.Cur, .int .i64 c.Cur2, .int .i64 c.Amount, .int .i64 c.Amount2] 23) = v at *
  generalize hB : w.heap.size = B at *
  have hvb := obj_lt hbx
  clear hput htake
  replace hv := Lib.hid hv
  replace hB := Lib.hid hB
  replace hB0 := Lib.hid hB0
  replace hbx := Lib.hid hbx
  replace cP := Lib.hid cP
  replace cM := Lib.hid cM
  replace cT := Lib.hid cT
  replace rP := Lib.hid rP
  replace rM := Lib.hid rM
  replace rT := Lib.hid rT
  replace oC := Lib.hid oC
  replace oD := Lib.hid oD
  clear I
  go_enter Try.func3, Try.ntmps3
  go_upto_region 1 with (fail)
  rw [hB.out]
  change Code.wp _ _ _ _ (w.alloc (.cells #[.int .i64 c.Kind, .int .i64 c.Member, .int .i64 c.Id, .int .i64 c.Other, .int .i64 c.Cur, .int .i64 c.Cur2, .int .i64 c.Amount, .int .i64 c.Amount2] 23))
  rw [hv.out]
  go_upto_region 3 with (first | (go_at_call 7; (refine (hA.out _).mono ?_); rintro e v1 ⟨rfl, hb1⟩))
  have hbx1 := (hb1.block B hvb).trans hbx.out
  have hB1 : Below B w v1 := hB0.out.trans (hb1.mono (by omega))
  have hbB := obj_lt hbx1
  replace hb1 := Lib.hid hb1
  replace hB1 := Lib.hid hB1
  by_cases h100 : 100 < s.size
  · have hz : (100 : Int) < (s.size : Int) := by omega
    replace hbx1 := Lib.hid hbx1
    go_wp2_with fail
    go_ret
    exact ⟨rfl, hB1.out⟩
  have hz : ¬ (100 : Int) < (s.size : Int) := by omega
  have cTs := fun w => cT.out w (by omega)
  have rTs := fun w => rT.out w (by omega)
  replace cTs := Lib.hid cTs
  replace rTs := Lib.hid rTs
  have d0 : v1.cell? ⟨B, 0, none⟩ = some (.int .i64 c.Kind) := obj_cell hbx1 rfl
  have d1 : v1.cell? ⟨B, 1, none⟩ = some (.int .i64 c.Member) := obj_cell hbx1 rfl
  have d2 : v1.cell? ⟨B, 2, none⟩ = some (.int .i64 c.Id) := obj_cell hbx1 rfl
  have d3 : v1.cell? ⟨B, 3, none⟩ = some (.int .i64 c.Other) := obj_cell hbx1 rfl
  have d4 : v1.cell? ⟨B, 4, none⟩ = some (.int .i64 c.Cur) := obj_cell hbx1 rfl
  have d5 : v1.cell? ⟨B, 5, none⟩ = some (.int .i64 c.Cur2) := obj_cell hbx1 rfl
  have d6 : v1.cell? ⟨B, 6, none⟩ = some (.int .i64 c.Amount) := obj_cell hbx1 rfl
  have d7 : v1.cell? ⟨B, 7, none⟩ = some (.int .i64 c.Amount2) := obj_cell hbx1 rfl
  have hkeep : ∀ w', Below v1.heap.size v1 w' → w'.heap[B]? = some (.cells #[.int .i64 c.Kind, .int .i64 c.Member, .int .i64 c.Id, .int .i64 c.Other, .int .i64 c.Cur, .int .i64 c.Cur2, .int .i64 c.Amount, .int .i64 c.Amount2] 23 (0, 0)) := fun w' hb => (hb.block B hbB).trans hbx1
  replace hkeep := Lib.hid hkeep
  replace hbx1 := Lib.hid hbx1
  go_wp2_with fail
  with_reducible refine (cP.out _).mono ?_
  rintro e v2 ⟨rfl, hb2⟩
  have hx2 := hkeep.out _ hb2
  have e0 : v2.cell? ⟨B, 0, none⟩ = some (.int .i64 c.Kind) := obj_cell hx2 rfl
  have e1 : v2.cell? ⟨B, 1, none⟩ = some (.int .i64 c.Member) := obj_cell hx2 rfl
  have e2 : v2.cell? ⟨B, 2, none⟩ = some (.int .i64 c.Id) := obj_cell hx2 rfl
  have e3 : v2.cell? ⟨B, 3, none⟩ = some (.int .i64 c.Other) := obj_cell hx2 rfl
  have e4 : v2.cell? ⟨B, 4, none⟩ = some (.int .i64 c.Cur) := obj_cell hx2 rfl
  have e5 : v2.cell? ⟨B, 5, none⟩ = some (.int .i64 c.Cur2) := obj_cell hx2 rfl
  have e6 : v2.cell? ⟨B, 6, none⟩ = some (.int .i64 c.Amount) := obj_cell hx2 rfl
  have e7 : v2.cell? ⟨B, 7, none⟩ = some (.int .i64 c.Amount2) := obj_cell hx2 rfl
  replace hx2 := Lib.hid hx2
  replace hb2 := Lib.hid hb2
  go_wp2_with fail
  with_reducible refine (oC.out _).mono ?_
  rintro e v3 ⟨rfl, hb3⟩
  have hb3' : Hid (Below v1.heap.size v1 v3) := Lib.hid (hb2.out.trans (hb3.mono hb2.out.size))
  replace hb3 := Lib.hid hb3
  go_wp2_with fail
  with_reducible refine (rP.out _).mono ?_
  rintro e v4 ⟨rfl, hb4⟩
  have hb4' : Hid (Below v1.heap.size v1 v4) := Lib.hid (hb3'.out.trans (hb4.mono hb3'.out.size))
  replace hb4 := Lib.hid hb4
  go_wp2_with fail
  with_reducible refine (cTs.out _).mono ?_
  rintro e v5 ⟨rfl, hb5⟩
  have hb5' := hb4'.out.trans (hb5.mono hb4'.out.size)
  have ho5 := heap_alloc_new v5 (.cells #[.int .i64 d.Kind, .int .i64 d.Member, .int .i64 d.Id, .int .i64 d.Other, .int .i64 d.Cur, .int .i64 d.Cur2, .int .i64 d.Amount, .int .i64 d.Amount2] 23)
  have hb5z : Below v5.heap.size v5 (v5.alloc (.cells #[.int .i64 d.Kind, .int .i64 d.Member, .int .i64 d.Id, .int .i64 d.Other, .int .i64 d.Cur, .int .i64 d.Cur2, .int .i64 d.Amount, .int .i64 d.Amount2] 23)) := (Below.refl _ _).alloc (Nat.le_refl _) _
  generalize hw6 : v5.alloc (.cells #[.int .i64 d.Kind, .int .i64 d.Member, .int .i64 d.Id, .int .i64 d.Other, .int .i64 d.Cur, .int .i64 d.Cur2, .int .i64 d.Amount, .int .i64 d.Amount2] 23) = v6 at *
  have hb6' : Hid (Below v1.heap.size v1 v6) := Lib.hid (hb5'.trans (hb5z.mono hb5'.size))
  generalize hgx : v5.heap.size = gx at *
  have hgx6 := obj_lt ho5
  replace hw6 := Lib.hid hw6
  replace hgx := Lib.hid hgx
  replace ho5 := Lib.hid ho5
  replace hb5 := Lib.hid hb5
  replace hb5' := Lib.hid hb5'
  replace hb5z := Lib.hid hb5z
  go_upto_region 8 with (fail)
  rw [hgx.out]
  change Code.wp _ _ _ _ (v5.alloc (.cells #[.int .i64 d.Kind, .int .i64 d.Member, .int .i64 d.Id, .int .i64 d.Other, .int .i64 d.Cur, .int .i64 d.Cur2, .int .i64 d.Amount, .int .i64 d.Amount2] 23))
  rw [hw6.out]
  go_wp2_with fail
  with_reducible refine (rTs.out _).mono ?_
  rintro e v7 ⟨rfl, hb7⟩
  have hb7' := hb6'.out.trans (hb7.mono hb6'.out.size)
  have ho7 := (hb7.block gx hgx6).trans ho5.out
  have ho8 := heap_alloc_new v7 (.cells #[.int .i64 d.Kind, .int .i64 d.Member, .int .i64 d.Id, .int .i64 d.Other, .int .i64 d.Cur, .int .i64 d.Cur2, .int .i64 d.Amount, .int .i64 d.Amount2] 29)
  have hb7z : Below v7.heap.size v7 (v7.alloc (.cells #[.int .i64 d.Kind, .int .i64 d.Member, .int .i64 d.Id, .int .i64 d.Other, .int .i64 d.Cur, .int .i64 d.Cur2, .int .i64 d.Amount, .int .i64 d.Amount2] 29)) := (Below.refl _ _).alloc (Nat.le_refl _) _
  have hox := (hb7z.block gx (obj_lt ho7)).trans ho7
  generalize hw8 : v7.alloc (.cells #[.int .i64 d.Kind, .int .i64 d.Member, .int .i64 d.Id, .int .i64 d.Other, .int .i64 d.Cur, .int .i64 d.Cur2, .int .i64 d.Amount, .int .i64 d.Amount2] 29) = v8 at *
  have hb8' : Below v1.heap.size v1 v8 := hb7'.trans (hb7z.mono hb7'.size)
  generalize hgy : v7.heap.size = gy at *
  have hoB := hkeep.out _ hb8'
  have hS : ∀ w', Below v8.heap.size v8 w' → w'.cell? ⟨B, 0, none⟩ = some (.int .i64 c.Kind) ∧ w'.cell? ⟨B, 1, none⟩ = some (.int .i64 c.Member) ∧ w'.cell? ⟨B, 2, none⟩ = some (.int .i64 c.Id) ∧ w'.cell? ⟨B, 3, none⟩ = some (.int .i64 c.Other) ∧ w'.cell? ⟨B, 4, none⟩ = some (.int .i64 c.Cur) ∧ w'.cell? ⟨B, 5, none⟩ = some (.int .i64 c.Cur2) ∧ w'.cell? ⟨B, 6, none⟩ = some (.int .i64 c.Amount) ∧ w'.cell? ⟨B, 7, none⟩ = some (.int .i64 c.Amount2) ∧ w'.cell? ⟨gx, 0, none⟩ = some (.int .i64 d.Kind) ∧ w'.cell? ⟨gx, 1, none⟩ = some (.int .i64 d.Member) ∧ w'.cell? ⟨gx, 2, none⟩ = some (.int .i64 d.Id) ∧ w'.cell? ⟨gx, 3, none⟩ = some (.int .i64 d.Other) ∧ w'.cell? ⟨gx, 4, none⟩ = some (.int .i64 d.Cur) ∧ w'.cell? ⟨gx, 5, none⟩ = some (.int .i64 d.Cur2) ∧ w'.cell? ⟨gx, 6, none⟩ = some (.int .i64 d.Amount) ∧ w'.cell? ⟨gx, 7, none⟩ = some (.int .i64 d.Amount2) ∧ w'.cell? ⟨gy, 0, none⟩ = some (.int .i64 d.Kind) ∧ w'.cell? ⟨gy, 1, none⟩ = some (.int .i64 d.Member) ∧ w'.cell? ⟨gy, 2, none⟩ = some (.int .i64 d.Id) ∧ w'.cell? ⟨gy, 3, none⟩ = some (.int .i64 d.Other) ∧ w'.cell? ⟨gy, 4, none⟩ = some (.int .i64 d.Cur) ∧ w'.cell? ⟨gy, 5, none⟩ = some (.int .i64 d.Cur2) ∧ w'.cell? ⟨gy, 6, none⟩ = some (.int .i64 d.Amount) ∧ w'.cell? ⟨gy, 7, none⟩ = some (.int .i64 d.Amount2) := fun w' hb => by
    have h1 := (hb.block B (obj_lt hoB)).trans hoB
    have h2 := (hb.block gx (obj_lt hox)).trans hox
    have h3 := (hb.block gy (obj_lt ho8)).trans ho8
    exact ⟨obj_cell h1 rfl, obj_cell h1 rfl, obj_cell h1 rfl, obj_cell h1 rfl, obj_cell h1 rfl, obj_cell h1 rfl, obj_cell h1 rfl, obj_cell h1 rfl, obj_cell h2 rfl, obj_cell h2 rfl, obj_cell h2 rfl, obj_cell h2 rfl, obj_cell h2 rfl, obj_cell h2 rfl, obj_cell h2 rfl, obj_cell h2 rfl, obj_cell h3 rfl, obj_cell h3 rfl, obj_cell h3 rfl, obj_cell h3 rfl, obj_cell h3 rfl, obj_cell h3 rfl, obj_cell h3 rfl, obj_cell h3 rfl⟩
  have q0 := hS v8 (Below.refl _ _)
  have q0' := hS v8.drew (Below.refl _ _).drew
  replace hS := Lib.hid hS
  replace hw8 := Lib.hid hw8
  replace hgy := Lib.hid hgy
  replace hoB := Lib.hid hoB
  replace hox := Lib.hid hox
  replace ho7 := Lib.hid ho7
  replace ho8 := Lib.hid ho8
  replace hb7 := Lib.hid hb7
  replace hb7' := Lib.hid hb7'
  replace hb7z := Lib.hid hb7z
  replace hb8' := Lib.hid hb8'
  go_upto_region 9 with (fail)
  rw [hgy.out]
  change Code.wp _ _ _ _ (v7.alloc (.cells #[.int .i64 d.Kind, .int .i64 d.Member, .int .i64 d.Id, .int .i64 d.Other, .int .i64 d.Cur, .int .i64 d.Cur2, .int .i64 d.Amount, .int .i64 d.Amount2] 29))
  rw [hw8.out]
  have hBc : Hid (Below v8.heap.size v8 v8.drew) := Lib.hid (Below.refl _ _).drew
  go_region_held3 (fun w' => w'.cell? ⟨B, 0, none⟩ = some (.int .i64 c.Kind) ∧ w'.cell? ⟨B, 1, none⟩ = some (.int .i64 c.Member) ∧ w'.cell? ⟨B, 2, none⟩ = some (.int .i64 c.Id) ∧ w'.cell? ⟨B, 3, none⟩ = some (.int .i64 c.Other) ∧ w'.cell? ⟨B, 4, none⟩ = some (.int .i64 c.Cur) ∧ w'.cell? ⟨B, 5, none⟩ = some (.int .i64 c.Cur2) ∧ w'.cell? ⟨B, 6, none⟩ = some (.int .i64 c.Amount) ∧ w'.cell? ⟨B, 7, none⟩ = some (.int .i64 c.Amount2) ∧ w'.cell? ⟨gx, 0, none⟩ = some (.int .i64 d.Kind) ∧ w'.cell? ⟨gx, 1, none⟩ = some (.int .i64 d.Member) ∧ w'.cell? ⟨gx, 2, none⟩ = some (.int .i64 d.Id) ∧ w'.cell? ⟨gx, 3, none⟩ = some (.int .i64 d.Other) ∧ w'.cell? ⟨gx, 4, none⟩ = some (.int .i64 d.Cur) ∧ w'.cell? ⟨gx, 5, none⟩ = some (.int .i64 d.Cur2) ∧ w'.cell? ⟨gx, 6, none⟩ = some (.int .i64 d.Amount) ∧ w'.cell? ⟨gx, 7, none⟩ = some (.int .i64 d.Amount2) ∧ w'.cell? ⟨gy, 0, none⟩ = some (.int .i64 d.Kind) ∧ w'.cell? ⟨gy, 1, none⟩ = some (.int .i64 d.Member) ∧ w'.cell? ⟨gy, 2, none⟩ = some (.int .i64 d.Id) ∧ w'.cell? ⟨gy, 3, none⟩ = some (.int .i64 d.Other) ∧ w'.cell? ⟨gy, 4, none⟩ = some (.int .i64 d.Cur) ∧ w'.cell? ⟨gy, 5, none⟩ = some (.int .i64 d.Cur2) ∧ w'.cell? ⟨gy, 6, none⟩ = some (.int .i64 d.Amount) ∧ w'.cell? ⟨gy, 7, none⟩ = some (.int .i64 d.Amount2)) (first | exact q0 | exact q0' | exact hHeld | exact q1)
    (first
      | (go_at_call 13; (with_reducible refine (cM.out _).mono ?_); rintro e z ⟨rfl, hbz⟩; have hW1 := hBc.out.trans (hbz.mono hBc.out.size); clear hBc hbz; have hBc := Lib.hid hW1; have q1 := hS.out _ hW1; clear hW1)
      | (go_at_call 14; (with_reducible refine (rM.out _).mono ?_); rintro e z ⟨rfl, hbz⟩; have hW1 := hBc.out.trans (hbz.mono hBc.out.size); clear hBc hbz; have hBc := Lib.hid hW1; have q1 := hS.out _ hW1; clear hW1)
      | (go_at_call 10; (first | (with_reducible refine (oC.out _).mono ?_) | (with_reducible refine (oD.out _).mono ?_)); rintro e z ⟨rfl, hbz⟩; have hW1 := hBc.out.trans (hbz.mono hBc.out.size); clear hBc hbz; have hBc := Lib.hid hW1; have q1 := hS.out _ hW1; clear hW1))
  all_goals
    go_wp2_with fail
    go_ret
    exact ⟨rfl, (hB1.out.trans ((hb8'.out.trans (hBc.out.mono hb8'.out.size)).mono (by omega)))⟩
end Go.Proofs.Ytgcliallkfnhaaa
