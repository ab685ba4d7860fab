/- Replies: what the program's functions must keep to; the law's awake over any wire that keeps its contracts. -/
import Derived.Test.YtgcliallkfnhaaaW6
import Derived.Test.YtgcliallkfnhaaaWL2
namespace Go.Proofs.Ytgcliallkfnhaaa
open Go.RowKit
set_option linter.unusedVariables false

/-- no reply -/
def noRep : Array Value := #[.int .i64 0, .int .i64 0, .slice none 0 0]
/-- the program's replies: what its functions keep to -/
structure PI : Prop where
  put : ∀ (r : Rep) (p : Option Addr) (cap : Nat) (w : World), ZRow w p r.Ids.length r.Ids → r.Ids.length ≤ 4611686018427387904 → Calls Try.prog 15 #[.agg (repArr r p cap)] w fun e w' => e = .returned (putPV r) ∧ Below w.heap.size w w'
  take : ∀ (s : ByteArray) (w : World), s.size ≤ 1000000 → Calls Try.prog 17 #[.string s] w fun e w' =>
    (match takeP (bl s) with
     | none => e = .returned (.tuple #[.agg noRep, .int .i64 2])
     | some r => ∃ p cap, e = .returned (.tuple #[.agg (repArr r p cap), .int .i64 0]) ∧ ZRow w' p r.Ids.length r.Ids) ∧ Below w.heap.size w w'

theorem eq23a : Try.prog.underlying 23 = some (.struct (Try.prog.fieldsOf 23)) := by kernel_rfl
theorem eq23b : Try.prog.stoodInHeld 23 = false := by kernel_rfl
theorem eq23d : Try.prog.fieldsOf 23 = #[⟨"Kind", 3, 0, false, "", "", 0⟩, ⟨"Member", 3, 1, false, "", "", 8⟩, ⟨"Id", 3, 2, false, "", "", 16⟩, ⟨"Other", 3, 3, false, "", "", 24⟩, ⟨"Cur", 3, 4, false, "", "", 32⟩, ⟨"Cur2", 3, 5, false, "", "", 40⟩, ⟨"Amount", 2, 6, false, "", "", 48⟩, ⟨"Amount2", 2, 7, false, "", "", 56⟩] := by kernel_rfl
theorem eq23c : Try.prog.eqGuardType Try.prog.depth 23 = false := by kernel_rfl
theorem eql_two (w : World) : (binOp .eql 23 (.agg #[.int .i64 4, .int .i64 0, .int .i64 256, .int .i64 0, .int .i64 0, .int .i64 0, .int .i64 0, .int .i64 0]) (.agg #[.int .i64 4, .int .i64 0, .int .i64 256, .int .i64 0, .int .i64 0, .int .i64 0, .int .i64 0, .int .i64 0])).run Try.prog w = .ok (.bool true) w := by
  have e0 := Try.underlying3
  have e1 := Try.underlying2
  rw [run_eql_struct, run_equalIn_agg w 9999 23 _ _ eq23a eq23b, eq23d]
  simp [Op.eqFields, go_sem, e0, e1]
def cOne : Cmd := ⟨3, 2, 0, 0, 1, 0, 258, 0⟩
def cTwo : Cmd := ⟨4, 0, 256, 0, 0, 0, 0, 0⟩
def cFour : Cmd := ⟨4, 0, 0, 0, 1, 0, 0, 0⟩
def rOne : Rep := ⟨5, -1, [7]⟩
theorem one_put : putV cOne = .tuple #[.string ⟨#[3, 2, 1, 0, 0, 0, 0, 0, 0, 1, 2]⟩, .int .i64 0] := by kernel_rfl
theorem four_put : putV cFour = .tuple #[.string ⟨#[]⟩, .int .i64 2] := by kernel_rfl
theorem two_take : takeV (takeC (bl ⟨#[4, 0, 0, 1, 0]⟩)) = .tuple #[.agg #[.int .i64 4, .int .i64 0, .int .i64 256, .int .i64 0, .int .i64 0, .int .i64 0, .int .i64 0, .int .i64 0], .int .i64 0] := by kernel_rfl
theorem three_take : takeV (takeC (bl ⟨#[4, 0, 0, 1]⟩)) = .tuple #[.agg #[.int .i64 0, .int .i64 0, .int .i64 0, .int .i64 0, .int .i64 0, .int .i64 0, .int .i64 0, .int .i64 0], .int .i64 2] := by kernel_rfl
theorem two_may : mayC cTwo = true := by kernel_rfl
theorem r_put : putPV rOne = .tuple #[.string ⟨#[5, 255, 255, 255, 255, 255, 255, 255, 255, 0, 1, 0, 0, 0, 7]⟩, .int .i64 0] := by kernel_rfl
theorem r_take : takeP (bl ⟨#[5, 255, 255, 255, 255, 255, 255, 255, 255, 0, 1, 0, 0, 0, 7]⟩) = some rOne := by kernel_rfl
theorem in_of (c : Cmd) (h : c.Kind = 3 ∨ c.Kind = 4) (h1 : 0 ≤ c.Member ∧ c.Member ≤ 1000) (h2 : 0 ≤ c.Id ∧ c.Id ≤ 1000) (h3 : 0 ≤ c.Other ∧ c.Other ≤ 1000) (h4 : 0 ≤ c.Cur ∧ c.Cur ≤ 1000) (h5 : 0 ≤ c.Cur2 ∧ c.Cur2 ≤ 1000) (h6 : 0 ≤ c.Amount ∧ c.Amount ≤ 1000) (h7 : 0 ≤ c.Amount2 ∧ c.Amount2 ≤ 1000) : c.In := by
  refine ⟨by omega, fun i => ?_⟩
  unfold Cmd.num
  split <;> omega
theorem zrow_one (w : World) (x : Int) : ZRow (w.alloc (.cells #[.int .i64 x] 3)) (some ⟨w.heap.size, 0, none⟩) 1 [x] := by
  refine ⟨rfl, .inr ⟨w.heap.size, 0, rfl, by simp, fun i hi => ?_⟩⟩
  obtain rfl : i = 0 := by omega
  exact obj_cell (heap_alloc_new w _) rfl

set_option maxHeartbeats 8000000 in
set_option maxRecDepth 100000 in
theorem awakeW_any (I : WI) (J : PI) (w : World) : Calls Try.prog 7 #[] w fun e w' => e = .returned (.bool true) ∧ Below w.heap.size w w' := by
  have c1 := fun w => I.put cOne w (in_of _ (.inl rfl) (by decide) (by decide) (by decide) (by decide) (by decide) (by decide) (by decide))
  have c4 := fun w => I.put cFour w (in_of _ (.inr rfl) (by decide) (by decide) (by decide) (by decide) (by decide) (by decide) (by decide))
  have m2 := fun w => I.may cTwo w (in_of _ (.inr rfl) (by decide) (by decide) (by decide) (by decide) (by decide) (by decide) (by decide))
  have t2 := fun w => I.take ⟨#[4, 0, 0, 1, 0]⟩ w (by decide)
  have t3 := fun w => I.take ⟨#[4, 0, 0, 1]⟩ w (by decide)
  have p1 := fun w => J.put rOne (some ⟨w.heap.size, 0, none⟩) 1 (w.alloc (.cells #[.int .i64 7] 3)) (zrow_one w 7) (by decide)
  have u1 := fun w => J.take ⟨#[5, 255, 255, 255, 255, 255, 255, 255, 255, 0, 1, 0, 0, 0, 7]⟩ w (by decide)
  rw [one_put] at c1
  rw [four_put] at c4
  rw [two_may] at m2
  rw [two_take] at t2
  rw [three_take] at t3
  rw [r_put] at p1
  rw [r_take] at u1
  unfold cOne at c1
  unfold cFour at c4
  unfold cTwo at m2
  unfold rOne at p1 u1
  unfold Cmd.arr at c1 c4 m2
  unfold repArr at p1 u1
  simp only [List.length_cons, List.length_nil] at c1 c4 m2 p1 u1
  have eq2 := eql_two
  replace c1 := Lib.hid c1
  replace c4 := Lib.hid c4
  replace m2 := Lib.hid m2
  replace t2 := Lib.hid t2
  replace t3 := Lib.hid t3
  replace p1 := Lib.hid p1
  replace u1 := Lib.hid u1
  clear I J
  go_enter Try.func7, Try.ntmps7
  go_wp2_with fail
  with_reducible refine (c1.out _).mono ?_
  rintro e v1 ⟨rfl, b1⟩
  replace b1 := Lib.hid b1
  go_wp2_with fail
  with_reducible refine (t2.out _).mono ?_
  rintro e v2 ⟨rfl, b2⟩
  have b2' : Hid (Below w.heap.size w (v2.alloc (.cells #[.int .i64 4, .int .i64 0, .int .i64 256, .int .i64 0, .int .i64 0, .int .i64 0, .int .i64 0, .int .i64 0] 23))) := Lib.hid ((b1.out.trans (b2.mono b1.out.size)).alloc (Nat.le_trans b1.out.size b2.size) _)
  have o2 := heap_alloc_new v2 (.cells #[.int .i64 4, .int .i64 0, .int .i64 256, .int .i64 0, .int .i64 0, .int .i64 0, .int .i64 0, .int .i64 0] 23)
  replace b2 := Lib.hid b2
  replace o2 := Lib.hid o2
  go_wp2_with fail
  with_reducible refine (t3.out _).mono ?_
  rintro e v3 ⟨rfl, b3⟩
  have o3 := (b3.block _ (obj_lt o2.out)).trans o2.out
  have b3' := b2'.out.trans (b3.mono b2'.out.size)
  have b3z : Hid (Below w.heap.size w (v3.alloc (.cells #[.int .i64 0, .int .i64 0, .int .i64 0, .int .i64 0, .int .i64 0, .int .i64 0, .int .i64 0, .int .i64 0] 23))) := Lib.hid (b3'.alloc b3'.size _)
  have o3z := (((Below.refl v3.heap.size v3).alloc (Nat.le_refl _) (.cells #[.int .i64 0, .int .i64 0, .int .i64 0, .int .i64 0, .int .i64 0, .int .i64 0, .int .i64 0, .int .i64 0] 23)).block _ (obj_lt o3)).trans o3
  generalize hg2 : v2.heap.size = g2 at *
  replace hg2 := Lib.hid hg2
  replace o2 := Lib.hid o2
  replace o3 := Lib.hid o3
  replace o3z := Lib.hid o3z
  replace b3 := Lib.hid b3
  replace b3' := Lib.hid b3'
  go_wp2_with fail
  with_reducible refine (c4.out _).mono ?_
  rintro e v4 ⟨rfl, b4⟩
  have b4' := b3z.out.trans (b4.mono b3z.out.size)
  have o4 := (b4.block _ (obj_lt o3z.out)).trans o3z.out
  have b4z : Hid (Below w.heap.size w (v4.alloc (.cells #[.int .i64 7] 3))) := Lib.hid (b4'.alloc b4'.size _)
  have o4z := (((Below.refl v4.heap.size v4).alloc (Nat.le_refl _) (.cells #[.int .i64 7] 3)).block _ (obj_lt o4)).trans o4
  replace o4 := Lib.hid o4
  replace o4z := Lib.hid o4z
  replace b4 := Lib.hid b4
  replace b4' := Lib.hid b4'
  go_wp2_with fail
  with_reducible refine (p1.out _).mono ?_
  rintro e v5 ⟨rfl, b5⟩
  have b5' : Hid (Below w.heap.size w v5) := Lib.hid (b4z.out.trans (b5.mono b4z.out.size))
  have o5 := (b5.block _ (obj_lt o4z.out)).trans o4z.out
  replace o5 := Lib.hid o5
  replace b5 := Lib.hid b5
  go_wp2_with fail
  with_reducible refine (u1.out _).mono ?_
  rintro e v6 ⟨⟨pr, capr, rfl, hz6⟩, b6⟩
  have b6' := b5'.out.trans (b6.mono b5'.out.size)
  have o6 := (b6.block _ (obj_lt o5.out)).trans o5.out
  have hal := (Below.refl v6.heap.size v6).alloc (Nat.le_refl _) (.cells #[.int .i64 5, .int .i64 (-1), .slice pr 1 capr] 40)
  have o6z := (hal.block _ (obj_lt o6)).trans o6
  have hz6z := hz6.kept hal
  have b6z : Below w.heap.size w (v6.alloc (.cells #[.int .i64 5, .int .i64 (-1), .slice pr 1 capr] 40)) := b6'.alloc b6'.size _
  have oR := heap_alloc_new v6 (.cells #[.int .i64 5, .int .i64 (-1), .slice pr 1 capr] 40)
  generalize hv7 : v6.alloc (.cells #[.int .i64 5, .int .i64 (-1), .slice pr 1 capr] 40) = v7 at *
  generalize hgR : v6.heap.size = gR at *
  have hall := (Below.refl v7.heap.size v7).alloc (Nat.le_refl _) (.cells #[.int .i64 7] 3)
  have cI := intsR_any pr (some ⟨v7.heap.size, 0, none⟩) 1 1 capr 1 [7] [7] (v7.alloc (.cells #[.int .i64 7] 3)) (hz6z.kept hall) (zrow_one v7 7) (by omega)
  rw [decide_eq_true rfl] at cI
  have o7 := (hall.block _ (obj_lt o6z)).trans o6z
  have b7 : Below w.heap.size w (v7.alloc (.cells #[.int .i64 7] 3)) := b6z.alloc b6z.size _
  have k0 : v7.cell? ⟨g2, 0, none⟩ = some (.int .i64 4) := obj_cell o6z rfl
  have k1 : v7.cell? ⟨g2, 1, none⟩ = some (.int .i64 0) := obj_cell o6z rfl
  have k2 : v7.cell? ⟨g2, 2, none⟩ = some (.int .i64 256) := obj_cell o6z rfl
  have k3 : v7.cell? ⟨g2, 3, none⟩ = some (.int .i64 0) := obj_cell o6z rfl
  have k4 : v7.cell? ⟨g2, 4, none⟩ = some (.int .i64 0) := obj_cell o6z rfl
  have k5 : v7.cell? ⟨g2, 5, none⟩ = some (.int .i64 0) := obj_cell o6z rfl
  have k6 : v7.cell? ⟨g2, 6, none⟩ = some (.int .i64 0) := obj_cell o6z rfl
  have k7 : v7.cell? ⟨g2, 7, none⟩ = some (.int .i64 0) := obj_cell o6z rfl
  have r0 : v7.cell? ⟨gR, 0, none⟩ = some (.int .i64 5) := obj_cell oR rfl
  have r1 : v7.cell? ⟨gR, 1, none⟩ = some (.int .i64 (-1)) := obj_cell oR rfl
  have r2 : v7.cell? ⟨gR, 2, none⟩ = some (.slice pr 1 capr) := obj_cell oR rfl
  replace hv7 := Lib.hid hv7
  replace hgR := Lib.hid hgR
  replace cI := Lib.hid cI
  replace o7 := Lib.hid o7
  replace b7 := Lib.hid b7
  replace hall := Lib.hid hall
  replace b6z := Lib.hid b6z
  replace hz6z := Lib.hid hz6z
  replace hz6 := Lib.hid hz6
  replace o6z := Lib.hid o6z
  replace o6 := Lib.hid o6
  replace oR := Lib.hid oR
  replace b6 := Lib.hid b6
  replace b6' := Lib.hid b6'
  replace hal := Lib.hid hal
  go_upto_region 7 with (fail)
  rw [hgR.out]
  change Code.wp _ _ _ _ (v6.alloc (.cells #[.int .i64 5, .int .i64 (-1), .slice pr 1 capr] 40))
  rw [hv7.out]
  go_wp2_with fail
  with_reducible refine cI.out.mono ?_
  rintro e v8 ⟨rfl, b8⟩
  have b8' : Hid (Below w.heap.size w v8) := Lib.hid (b7.out.trans (b8.mono b7.out.size))
  have o8 := (b8.block _ (obj_lt o7.out)).trans o7.out
  have l0 : v8.cell? ⟨g2, 0, none⟩ = some (.int .i64 4) := obj_cell o8 rfl
  have l1 : v8.cell? ⟨g2, 1, none⟩ = some (.int .i64 0) := obj_cell o8 rfl
  have l2 : v8.cell? ⟨g2, 2, none⟩ = some (.int .i64 256) := obj_cell o8 rfl
  have l3 : v8.cell? ⟨g2, 3, none⟩ = some (.int .i64 0) := obj_cell o8 rfl
  have l4 : v8.cell? ⟨g2, 4, none⟩ = some (.int .i64 0) := obj_cell o8 rfl
  have l5 : v8.cell? ⟨g2, 5, none⟩ = some (.int .i64 0) := obj_cell o8 rfl
  have l6 : v8.cell? ⟨g2, 6, none⟩ = some (.int .i64 0) := obj_cell o8 rfl
  have l7 : v8.cell? ⟨g2, 7, none⟩ = some (.int .i64 0) := obj_cell o8 rfl
  replace o8 := Lib.hid o8
  replace b8 := Lib.hid b8
  go_wp2_with fail
  with_reducible refine (m2.out _).mono ?_
  rintro e v9 ⟨rfl, b9⟩
  replace b9 := Lib.hid b9
  go_wp2_with fail
  go_ret
  exact ⟨rfl, b8'.out.trans (b9.out.mono b8'.out.size)⟩

end Go.Proofs.Ytgcliallkfnhaaa
