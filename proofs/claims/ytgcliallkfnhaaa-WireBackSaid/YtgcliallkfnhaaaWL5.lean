/- Replies' bytes: the law's walk over any wire, and any reference, that keep their contracts. -/
import Derived.Test.YtgcliallkfnhaaaWL4
namespace Go.Proofs.Ytgcliallkfnhaaa
open Go.RowKit
set_option linter.unusedVariables false

/-- the reference's replies: what its functions keep to -/
structure QI : Prop where
  put : ∀ (r : Rep) (p : Option Addr) (cap : Nat) (w : World), ZRow w p r.Ids.length r.Ids → r.Ids.length ≤ 4611686018427387904 → Calls Try.prog 16 #[.agg (repArr r p cap)] w fun e w' => e = .returned (putPV r) ∧ Below w.heap.size w w'
  take : ∀ (s : ByteArray) (w : World), s.size ≤ 1000000 → Calls Try.prog 18 #[.string s] w fun e w' =>
    (match takeP (bl s) with
     | none => e = .returned (.tuple #[.agg noRep, .int .i64 2])
     | some r => ∃ p cap, e = .returned (.tuple #[.agg (repArr r p cap), .int .i64 0]) ∧ ZRow w' p r.Ids.length r.Ids) ∧ Below w.heap.size w w'
/-- the reply, or none, with the error -/
def repO : Option Rep → Rep
  | none => ⟨0, 0, []⟩
  | some r => r
def errO : Option Rep → Int
  | none => 2
  | some _ => 0
theorem take_same {f : FuncId} {s : ByteArray} {w : World} (o : Option Rep) (h : Calls Try.prog f #[.string s] w fun e w' =>
    (match o with
     | none => e = .returned (.tuple #[.agg noRep, .int .i64 2])
     | some r => ∃ p cap, e = .returned (.tuple #[.agg (repArr r p cap), .int .i64 0]) ∧ ZRow w' p r.Ids.length r.Ids) ∧ Below w.heap.size w w') :
    Calls Try.prog f #[.string s] w fun e w' => ∃ p cap, e = .returned (.tuple #[.agg (repArr (repO o) p cap), .int .i64 (errO o)]) ∧ ZRow w' p (repO o).Ids.length (repO o).Ids ∧ Below w.heap.size w w' := by
  refine h.mono ?_
  intro e w' ⟨h1, h2⟩
  cases o with
  | none => exact ⟨none, 0, h1, ⟨rfl, .inl rfl⟩, h2⟩
  | some r =>
    obtain ⟨p, cap, h3, h4⟩ := h1
    exact ⟨p, cap, h3, h4, h2⟩

theorem takeP_len (l : List UInt8) (h : l.length ≤ 2000) : (repO (takeP l)).Ids.length ≤ 1000 := by
  cases ht : takeP l with
  | none => exact Nat.zero_le _
  | some r =>
    obtain ⟨h1, _⟩ := putP_take ht
    have := putP_length r
    rw [h1] at this
    show r.Ids.length ≤ 1000
    omega

set_option maxHeartbeats 8000000 in
set_option maxRecDepth 100000 in
theorem wireReplies_any (I : WI) (J : PI) (Q : QI) (r : Rep) (p : Option Addr) (cap : Nat) (hrn : r.Ids.length ≤ 4611686018427387904) (s : ByteArray) (hs : s.size ≤ 140737488351232) (w : World) (hz : ZRow w p r.Ids.length r.Ids) :
    Calls Try.prog 4 #[.agg (repArr r p cap), .string s] w fun e w' => e = .returned (.bool true) ∧ Below w.heap.size w w' := by
  have hA := fun w => awakeW_any I J w
  have hts := takeP_len
  have hW0 : Below w.heap.size w (w.alloc (.cells (repArr r p cap) 40)) := (Below.refl _ _).alloc (Nat.le_refl _) _
  have hbx0 := heap_alloc_new w (.cells (repArr r p cap) 40)
  have hz0 := hz.kept hW0
  obtain ⟨PS, pe, hput⟩ : ∃ (S : ByteArray) (e : Int), putPV r = .tuple #[.string S, .int .i64 e] := by
    rcases putPV_two r with ⟨_, h⟩ | ⟨_, h⟩ <;> exact ⟨_, _, h⟩
  have c15 := fun w h => J.put r p cap w h hrn
  have c16 := fun w h => Q.put r p cap w h hrn
  rw [hput] at c15 c16
  have c17 := fun w h => take_same _ (J.take s w h)
  have c18 := fun w h => take_same _ (Q.take s w h)
  have hlen : s.size ≤ 2000 → (repO (takeP (bl s))).Ids.length ≤ 1000 := fun h => hts _ (by rw [bl_length]; exact h)
  generalize repO (takeP (bl s)) = r2 at *
  generalize errO (takeP (bl s)) = te at *
  unfold repArr at *
  generalize hwa : w.alloc (.cells #[.int .i64 r.E, .int .i64 r.Value, .slice p r.Ids.length cap] 40) = wa at *
  generalize hB : w.heap.size = B at *
  have hPS : (PS.toList == PS.toList) = true := by simp
  have hpe : (pe == pe) = true := by simp
  have hte : (te == te) = true := by simp
  have hE1 : (r2.E == r2.E) = true := by simp
  have hV1 : (r2.Value == r2.Value) = true := by simp
  replace hA := Lib.hid hA
  replace hwa := Lib.hid hwa
  replace hB := Lib.hid hB
  replace hW0 := Lib.hid hW0
  replace hbx0 := Lib.hid hbx0
  replace hz0 := Lib.hid hz0
  replace hz := Lib.hid hz
  replace c15 := Lib.hid c15
  replace c16 := Lib.hid c16
  replace c17 := Lib.hid c17
  replace c18 := Lib.hid c18
  replace hput := Lib.hid hput
  replace hts := Lib.hid hts
  replace hlen := Lib.hid hlen
  clear I J Q
  go_enter Try.func4, Try.ntmps4
  go_upto_region 1 with (fail)
  rw [hB.out]
  change Code.wp _ _ _ _ (w.alloc (.cells #[.int .i64 r.E, .int .i64 r.Value, .slice p r.Ids.length cap] 40))
  rw [hwa.out]
  go_upto_region 3 with (first | (go_at_call 7; refine (hA.out _).mono ?_; rintro e v1 ⟨rfl, hb1⟩))
  have hbx1 := (hb1.block B (obj_lt hbx0.out)).trans hbx0.out
  have hW1 : Below B w v1 := hW0.out.trans (hb1.mono (by have := obj_lt hbx0.out; omega))
  have hz1 := hz0.out.kept hb1
  have hbl := obj_lt hbx1
  have d0 : v1.cell? ⟨B, 0, none⟩ = some (.int .i64 r.E) := obj_cell hbx1 rfl
  have d1 : v1.cell? ⟨B, 1, none⟩ = some (.int .i64 r.Value) := obj_cell hbx1 rfl
  have d2 : v1.cell? ⟨B, 2, none⟩ = some (.slice p r.Ids.length cap) := obj_cell hbx1 rfl
  have c15a := c15.out v1 hz1
  replace hbx1 := Lib.hid hbx1
  replace hz1 := Lib.hid hz1
  replace hW1 := Lib.hid hW1
  replace hb1 := Lib.hid hb1
  replace c15a := Lib.hid c15a
  generalize r.E = E at *
  generalize r.Value = V at *
  generalize hids : r.Ids = ids at *
  replace hids := Lib.hid hids
  generalize hnn : ids.length = n at *
  replace hnn := Lib.hid hnn
  by_cases h300 : 300 < n
  · have h3 : (300 : Int) < (n : Int) := by omega
    go_wp2_with fail
    go_ret
    exact ⟨rfl, hW1.out⟩
  have h3 : ¬ (300 : Int) < (n : Int) := by omega
  by_cases h2000 : 2000 < s.size
  · have h4 : (2000 : Int) < (s.size : Int) := by omega
    go_wp2_with fail
    go_ret
    exact ⟨rfl, hW1.out⟩
  have h4 : ¬ (2000 : Int) < (s.size : Int) := by omega
  have hl2 := hlen.out (by omega)
  generalize hmm2 : r2.Ids.length = m at *
  replace hmm2 := Lib.hid hmm2
  go_wp2_with fail
  with_reducible refine c15a.out.mono ?_
  rintro e v2 ⟨rfl, hb2⟩
  have hbx2 := (hb2.block B hbl).trans hbx1.out
  have e0 : v2.cell? ⟨B, 0, none⟩ = some (.int .i64 E) := obj_cell hbx2 rfl
  have e1 : v2.cell? ⟨B, 1, none⟩ = some (.int .i64 V) := obj_cell hbx2 rfl
  have e2 : v2.cell? ⟨B, 2, none⟩ = some (.slice p n cap) := obj_cell hbx2 rfl
  have c16a := c16.out v2 (hz1.out.kept hb2)
  replace hbx2 := Lib.hid hbx2
  replace c16a := Lib.hid c16a
  replace hb2 := Lib.hid hb2
  go_wp2_with fail
  with_reducible refine c16a.out.mono ?_
  rintro e v3 ⟨rfl, hb3⟩
  have hb3' := hb2.out.trans (hb3.mono hb2.out.size)
  have c17a := c17.out v3 (by omega)
  replace c17a := Lib.hid c17a
  replace hb3 := Lib.hid hb3
  go_wp2_with fail
  with_reducible refine c17a.out.mono ?_
  rintro e v4 ⟨p4, cap4, rfl, hz4, hb4⟩
  have hb4' := hb3'.trans (hb4.mono hb3'.size)
  have hal4 := (Below.refl v4.heap.size v4).alloc (Nat.le_refl _) (.cells #[.int .i64 r2.E, .int .i64 r2.Value, .slice p4 m cap4] 40)
  have hb4z := hb4'.alloc hb4'.size (.cells #[.int .i64 r2.E, .int .i64 r2.Value, .slice p4 m cap4] 40)
  have oX := heap_alloc_new v4 (.cells #[.int .i64 r2.E, .int .i64 r2.Value, .slice p4 m cap4] 40)
  have hz5 := hz4.kept hal4
  generalize hv5 : v4.alloc (.cells #[.int .i64 r2.E, .int .i64 r2.Value, .slice p4 m cap4] 40) = v5 at *
  generalize hgX : v4.heap.size = gX at *
  have hgX5 := obj_lt oX
  have c18a := c18.out v5 (by omega)
  replace hv5 := Lib.hid hv5
  replace hgX := Lib.hid hgX
  replace oX := Lib.hid oX
  replace hz4 := Lib.hid hz4
  replace hz5 := Lib.hid hz5
  replace hb3' := Lib.hid hb3'
  replace hb4 := Lib.hid hb4
  replace hb4' := Lib.hid hb4'
  replace hb4z := Lib.hid hb4z
  replace hal4 := Lib.hid hal4
  replace c18a := Lib.hid c18a
  go_upto_region 8 with (fail)
  rw [hgX.out]
  change Code.wp _ _ _ _ (v4.alloc (.cells #[.int .i64 r2.E, .int .i64 r2.Value, .slice p4 m cap4] 40))
  rw [hv5.out]
  go_wp2_with fail
  with_reducible refine c18a.out.mono ?_
  rintro e v6 ⟨p6, cap6, rfl, hz6, hb6⟩
  have hb6' := hb4z.out.trans (hb6.mono hb4z.out.size)
  have hal6 := (Below.refl v6.heap.size v6).alloc (Nat.le_refl _) (.cells #[.int .i64 r2.E, .int .i64 r2.Value, .slice p6 m cap6] 43)
  have hb6z := hb6'.alloc hb6'.size (.cells #[.int .i64 r2.E, .int .i64 r2.Value, .slice p6 m cap6] 43)
  have oX6 := (hb6.block gX hgX5).trans oX.out
  have oX7 := (hal6.block gX (obj_lt oX6)).trans oX6
  have oY := heap_alloc_new v6 (.cells #[.int .i64 r2.E, .int .i64 r2.Value, .slice p6 m cap6] 43)
  have hz7 := (hz5.out.kept hb6).kept hal6
  have hz8 := hz6.kept hal6
  generalize hv7 : v6.alloc (.cells #[.int .i64 r2.E, .int .i64 r2.Value, .slice p6 m cap6] 43) = v7 at *
  generalize hgY : v6.heap.size = gY at *
  have x0 : v7.cell? ⟨gX, 0, none⟩ = some (.int .i64 r2.E) := obj_cell oX7 rfl
  have x1 : v7.cell? ⟨gX, 1, none⟩ = some (.int .i64 r2.Value) := obj_cell oX7 rfl
  have x2 : v7.cell? ⟨gX, 2, none⟩ = some (.slice p4 m cap4) := obj_cell oX7 rfl
  have y0 : v7.cell? ⟨gY, 0, none⟩ = some (.int .i64 r2.E) := obj_cell oY rfl
  have y1 : v7.cell? ⟨gY, 1, none⟩ = some (.int .i64 r2.Value) := obj_cell oY rfl
  have y2 : v7.cell? ⟨gY, 2, none⟩ = some (.slice p6 m cap6) := obj_cell oY rfl
  have cI := intsR_any p4 p6 m m cap4 cap6 r2.Ids r2.Ids v7 hz7 hz8 (by omega)
  rw [decide_eq_true rfl] at cI
  generalize r2.E = E2 at *
  generalize r2.Value = V2 at *
  replace hv7 := Lib.hid hv7
  replace hgY := Lib.hid hgY
  replace oX6 := Lib.hid oX6
  replace oX7 := Lib.hid oX7
  replace oY := Lib.hid oY
  replace hz6 := Lib.hid hz6
  replace hz7 := Lib.hid hz7
  replace hz8 := Lib.hid hz8
  replace hb6 := Lib.hid hb6
  replace hb6' := Lib.hid hb6'
  replace hb6z := Lib.hid hb6z
  replace hal6 := Lib.hid hal6
  replace cI := Lib.hid cI
  go_upto_region 9 with (fail)
  rw [hgY.out]
  change Code.wp _ _ _ _ (v6.alloc (.cells #[.int .i64 E2, .int .i64 V2, .slice p6 m cap6] 43))
  rw [hv7.out]
  go_wp2_with fail
  with_reducible refine cI.out.mono ?_
  rintro e v8 ⟨rfl, hb8⟩
  have hfin : Hid (Below B w v8) := Lib.hid (hW1.out.trans ((hb6z.out.trans (hb8.mono hb6z.out.size)).mono (by omega)))
  replace hb8 := Lib.hid hb8
  go_wp2_with fail
  go_ret
  exact ⟨rfl, hfin.out⟩
end Go.Proofs.Ytgcliallkfnhaaa
