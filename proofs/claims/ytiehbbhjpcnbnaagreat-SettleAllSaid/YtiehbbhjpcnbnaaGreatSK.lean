/- The contract of the law's awake. -/
import Derived.Test.YtiehbbhjpcnbnaaGreatSJ
namespace Go.Proofs.YtiehbbhjpcnbnaaGreat
open Go.RowKit
set_option linter.unusedVariables false

def oT : Obj := .cells #[.string ⟨#[69, 85, 82]⟩, .int .i64 10000, .int .i64 0, .string ⟨#[85, 83, 68]⟩, .int .i64 12500, .int .i64 0] 55
def oZ : Obj := .cells #[.int .i64 0, .int .i64 0] 2
def oL (n : Nat) : Obj := .cells #[.slice (some ⟨n + 1, 0, none⟩) 2 2, .int .i64 0, .slice (some ⟨n + 2, 0, none⟩) 2 2, .int .i64 0] 58
def oD : Obj := .cells #[.int .i64 7, .int .i64 0, .int .i64 1, .int .i64 0, .int .i64 1, .int .i64 100, .int .i64 80, .int .i64 8, .int .i64 0, .int .i64 1, .int .i64 0, .int .i64 1, .int .i64 1, .int .i64 1] 44
def oI : Obj := .cells #[.int .i64 0, .int .i64 0, .int .i64 100, .int .i64 1, .int .i64 1, .int .i64 80] 60
def oX (n : Nat) : Obj := .cells #[.slice (some ⟨n, 0, none⟩) 2 2, .slice (some ⟨n + 3, 0, none⟩) 2 2, .slice (some ⟨n + 4, 0, none⟩) 2 2, .slice (some ⟨n + 5, 0, none⟩) 2 2] 27
def aW (w : World) : World := ((((((w.alloc oT).alloc oZ).alloc oZ).alloc (oL w.heap.size)).alloc oD).alloc oI).alloc (oX w.heap.size)
structure AWF (w v : World) : Prop where
  inn : (aBV w.heap.size).In v
  bl : Below w.heap.size w v
  sz : v.heap.size = w.heap.size + 7
  x : v.heap[w.heap.size + 6]? = some (.cells #[.slice (some ⟨w.heap.size, 0, none⟩) 2 2, .slice (some ⟨w.heap.size + 3, 0, none⟩) 2 2, .slice (some ⟨w.heap.size + 4, 0, none⟩) 2 2, .slice (some ⟨w.heap.size + 5, 0, none⟩) 2 2] 27 (0, 0))
  d : v.heap[w.heap.size + 4]? = some (.cells #[.int .i64 7, .int .i64 0, .int .i64 1, .int .i64 0, .int .i64 1, .int .i64 100, .int .i64 80, .int .i64 8, .int .i64 0, .int .i64 1, .int .i64 0, .int .i64 1, .int .i64 1, .int .i64 1] 44 (0, 0))
theorem at_new (w : World) (o : Obj) (n : Nat) (h : w.heap.size = n) : (w.alloc o).heap[n]? = some o := by rw [← h]; exact heap_alloc_new w o
theorem at_old (w : World) (o : Obj) {n : Nat} {q : Obj} (h : w.heap[n]? = some q) : (w.alloc o).heap[n]? = some q := (Below.heap_alloc _ _ _ (obj_lt h)).trans h
theorem d7_in : d7.In := ⟨(by decide : In64 7), (by decide : In64 0), (by decide : In64 1), (by decide : In64 0), (by decide : In64 1), (by decide : In64 100), (by decide : In64 80)⟩
theorem d8_in : d8.In := ⟨(by decide : In64 8), (by decide : In64 0), (by decide : In64 1), (by decide : In64 0), (by decide : In64 1), (by decide : In64 1), (by decide : In64 1)⟩
theorem aWF (w : World) : AWF w (aW w) := by
  have t1 := tabG w
  unfold aW
  have e1 := at_new w oT w.heap.size rfl
  have s1 : (w.alloc oT).heap.size = w.heap.size + 1 := by simp
  change Tab (w.alloc oT) _ _ _ at t1
  have b1 : Below w.heap.size w (w.alloc oT) := (Below.refl _ _).alloc (Nat.le_refl _) _
  generalize w.alloc oT = w1 at *
  have e2 := at_new w1 oZ _ s1
  have s2 : (w1.alloc oZ).heap.size = w.heap.size + 2 := by simp [s1]
  have b2 : Below w1.heap.size w1 (w1.alloc oZ) := (Below.refl _ _).alloc (Nat.le_refl _) _
  generalize w1.alloc oZ = w2 at *
  have e3 := at_new w2 oZ _ s2
  have e2 := at_old w2 oZ e2
  have s3 : (w2.alloc oZ).heap.size = w.heap.size + 3 := by simp [s2]
  have b3 : Below w2.heap.size w2 (w2.alloc oZ) := (Below.refl _ _).alloc (Nat.le_refl _) _
  generalize w2.alloc oZ = w3 at *
  have e4 := at_new w3 (oL w.heap.size) _ s3
  have e3 := at_old w3 (oL w.heap.size) e3
  have e2 := at_old w3 (oL w.heap.size) e2
  have s4 : (w3.alloc (oL w.heap.size)).heap.size = w.heap.size + 4 := by simp [s3]
  have b4 : Below w3.heap.size w3 (w3.alloc (oL w.heap.size)) := (Below.refl _ _).alloc (Nat.le_refl _) _
  generalize w3.alloc (oL w.heap.size) = w4 at *
  have e5 := at_new w4 oD _ s4
  have e4 := at_old w4 oD e4
  have e3 := at_old w4 oD e3
  have e2 := at_old w4 oD e2
  have s5 : (w4.alloc oD).heap.size = w.heap.size + 5 := by simp [s4]
  have b5 : Below w4.heap.size w4 (w4.alloc oD) := (Below.refl _ _).alloc (Nat.le_refl _) _
  generalize w4.alloc oD = w5 at *
  have e6 := at_new w5 oI _ s5
  have e5 := at_old w5 oI e5
  have e4 := at_old w5 oI e4
  have e3 := at_old w5 oI e3
  have e2 := at_old w5 oI e2
  have s6 : (w5.alloc oI).heap.size = w.heap.size + 6 := by simp [s5]
  have b6 : Below w5.heap.size w5 (w5.alloc oI) := (Below.refl _ _).alloc (Nat.le_refl _) _
  generalize w5.alloc oI = w6 at *
  have e7 := at_new w6 (oX w.heap.size) _ s6
  have e6 := at_old w6 (oX w.heap.size) e6
  have e5 := at_old w6 (oX w.heap.size) e5
  have e4 := at_old w6 (oX w.heap.size) e4
  have e3 := at_old w6 (oX w.heap.size) e3
  have e2 := at_old w6 (oX w.heap.size) e2
  have s7 : (w6.alloc (oX w.heap.size)).heap.size = w.heap.size + 7 := by simp [s6]
  have b7 : Below w6.heap.size w6 (w6.alloc (oX w.heap.size)) := (Below.refl _ _).alloc (Nat.le_refl _) _
  generalize w6.alloc (oX w.heap.size) = w7 at *
  have b17 : Below w1.heap.size w1 w7 := ((((b2.trans (b3.mono (by omega))).trans (b4.mono (by omega))).trans (b5.mono (by omega))).trans (b6.mono (by omega))).trans (b7.mono (by omega))
  unfold oL at e4
  unfold oZ at e2 e3
  unfold oD at e5
  unfold oI at e6
  refine ⟨⟨t1.kept b17, ?_, ?_, ?_⟩, b1.trans (b17.mono (by omega)), s7, e7, e5⟩
  · refine ⟨rfl, (by show 2 ≤ 140737488351232; decide), fun v hv => ?_, .inr ⟨w.heap.size + 3, 0, rfl, obj_lt e4, fun i v hv => ?_⟩⟩
    · have hv' : v ∈ aLs (w.heap.size + 1) (w.heap.size + 2) := hv
      simp [aLs] at hv'
      rcases hv' with rfl | rfl
      · exact ⟨seq_two e2 (by decide) (by decide), (by decide : In64 0)⟩
      · exact ⟨seq_two e3 (by decide) (by decide), (by decide : In64 0)⟩
    · have hv' : (aLs (w.heap.size + 1) (w.heap.size + 2))[i]? = some v := hv
      match i with
      | 0 => injection hv' with hv'; rw [← hv']; exact ⟨obj_cell e4 rfl, obj_cell e4 rfl⟩
      | 1 => injection hv' with hv'; rw [← hv']; exact ⟨obj_cell e4 rfl, obj_cell e4 rfl⟩
      | i + 2 => simp [aLs] at hv'
  · refine ⟨rfl, fun d hd => ?_, .inr ⟨w.heap.size + 4, 0, rfl, obj_lt e5, fun i d hd => ?_⟩⟩
    · have hd' : d ∈ [d7, d8] := hd
      simp at hd'
      rcases hd' with rfl | rfl
      · exact d7_in
      · exact d8_in
    · have hd' : [d7, d8][i]? = some d := hd
      match i with
      | 0 => injection hd' with hd'; rw [← hd']; exact ⟨obj_cell e5 rfl, obj_cell e5 rfl, obj_cell e5 rfl, obj_cell e5 rfl, obj_cell e5 rfl, obj_cell e5 rfl, obj_cell e5 rfl⟩
      | 1 => injection hd' with hd'; rw [← hd']; exact ⟨obj_cell e5 rfl, obj_cell e5 rfl, obj_cell e5 rfl, obj_cell e5 rfl, obj_cell e5 rfl, obj_cell e5 rfl, obj_cell e5 rfl⟩
      | i + 2 => simp at hd'
  · refine ⟨rfl, fun q hq => ?_, .inr ⟨w.heap.size + 5, 0, rfl, obj_lt e6, fun i q hq => ?_⟩⟩
    · have hq' : q ∈ [(⟨0, 0, 100⟩ : Pst), ⟨1, 1, 80⟩] := hq
      simp at hq'
      rcases hq' with rfl | rfl <;> exact ⟨by decide, by decide, by decide⟩
    · have hq' : [(⟨0, 0, 100⟩ : Pst), ⟨1, 1, 80⟩][i]? = some q := hq
      match i with
      | 0 => injection hq' with hq'; rw [← hq']; exact ⟨obj_cell e6 rfl, obj_cell e6 rfl, obj_cell e6 rfl⟩
      | 1 => injection hq' with hq'; rw [← hq']; exact ⟨obj_cell e6 rfl, obj_cell e6 rfl, obj_cell e6 rfl⟩
      | i + 2 => simp at hq'
theorem irow_one (w : World) (x : Int) : Dd.IRow (w.alloc (.cells #[.int .i64 x] 3)) (.slice (some ⟨w.heap.size, 0, none⟩) 1 1) [x] := by
  refine ⟨rfl, .inr ⟨w.heap.size, 1, #[.int .i64 x], rfl, Nat.zero_le _, heap_alloc_new _ _, Nat.le_refl _, by unfold maxLen; decide, rfl, ?_⟩⟩
  simp
set_option maxHeartbeats 8000000 in
set_option maxRecDepth 100000 in
theorem awake_any (w : World) : Calls Tryz.prog 7 #[] w fun e w' => e = .returned (.bool true) ∧ Below w.heap.size w w' := by
  have hF := aWF w
  go_enter Tryz.func7, Tryz.ntmps7
  go_upto_region 2 with fail
  simp only [Nat.add_assoc, Nat.reduceAdd]
  change Code.wp _ _ _ _ (aW w)
  generalize aW w = v at *
  have cM := made_any (aBV w.heap.size) v hF.inn
  have cM2 : Calls Tryz.prog 8 #[.agg #[.slice (some ⟨w.heap.size, 0, none⟩) 2 2, .slice (some ⟨w.heap.size + 3, 0, none⟩) 2 2, .slice (some ⟨w.heap.size + 4, 0, none⟩) 2 2, .slice (some ⟨w.heap.size + 5, 0, none⟩) 2 2]] v fun e w' => ∃ c, e = .returned (.tuple #[.pointer (some ⟨c.gb, 0, none⟩), .pointer (some ⟨c.kb, 0, none⟩)]) ∧ PS (fun j => j < v.heap.size) c aS0 w' ∧ Below v.heap.size v w' := cM.mono fun e w' ⟨h1, _, h3⟩ => by
    obtain ⟨c, e1, e2⟩ := h1 (aBV_good _)
    rw [aBV_st] at e2
    exact ⟨c, e1, e2, h3⟩
  have k0 : v.cell? ⟨w.heap.size + 6, 0, none⟩ = some (.slice (some ⟨w.heap.size, 0, none⟩) 2 2) := obj_cell hF.x rfl
  have k1 : v.cell? ⟨w.heap.size + 6, 1, none⟩ = some (.slice (some ⟨w.heap.size + 3, 0, none⟩) 2 2) := obj_cell hF.x rfl
  have k2 : v.cell? ⟨w.heap.size + 6, 2, none⟩ = some (.slice (some ⟨w.heap.size + 4, 0, none⟩) 2 2) := obj_cell hF.x rfl
  have k3 : v.cell? ⟨w.heap.size + 6, 3, none⟩ = some (.slice (some ⟨w.heap.size + 5, 0, none⟩) 2 2) := obj_cell hF.x rfl
  clear cM
  replace cM2 := Lib.hid cM2
  replace hF := Lib.hid hF
  go_upto_region 3 with (go_at_call 8; (with_reducible refine cM2.out.mono ?_); rintro e v1 ⟨c, rfl, hS1, hb1⟩)
  have hok := hS1.ok
  have hq : ∀ j, j < v.heap.size → j < v1.heap.size := fun j hj => Nat.lt_of_lt_of_le hj hb1.size
  have c9 : Calls Tryz.prog 18 #[.pointer (some ⟨c.gb, 0, none⟩), .pointer (some ⟨c.kb, 0, none⟩), .int .i64 9] v1 fun e w' => e = .returned (.int .i64 5) ∧ PS (fun j => j < v.heap.size) c aS0 w' ∧ Kp (fun j => ¬ j < v.heap.size) v1 w' := (hS1.tryc (id := 9) (by decide)).mono fun e w' ⟨e1, e2, e3⟩ => by
    rw [a_t9] at e1
    rw [try_err hok (by rw [a_t9]; decide)] at e2
    exact ⟨e1, e2, e3⟩
  have cl1 := Lib.hid hS1.ledger
  replace c9 := Lib.hid c9
  replace hS1 := Lib.hid hS1
  replace hb1 := Lib.hid hb1
  go_upto_region 5 with (go_at_call 9; (with_reducible refine cl1.out.mono ?_); rintro e v' ⟨rfl, rfl⟩)
  go_upto_region 6 with (go_at_call 18; (with_reducible refine c9.out.mono ?_); rintro e v2 ⟨rfl, hS2, hk2⟩)
  have cC := hS2.cycle
  have hcy := a_cyc hok
  rw [hcy] at cC
  replace cC := Lib.hid cC
  replace hS2 := Lib.hid hS2
  replace hk2 := Lib.hid hk2
  go_upto_region 7 with (go_at_call 13; (with_reducible refine cC.out.mono ?_); rintro e v3 ⟨u, rfl, hr3, hS3, hk3⟩)
  have hok2 := hS3.ok
  have c7 : Calls Tryz.prog 18 #[.pointer (some ⟨c.gb, 0, none⟩), .pointer (some ⟨c.kb, 0, none⟩), .int .i64 7] v3 fun e w' => e = .returned (.int .i64 7) ∧ PS (fun j => j < v.heap.size ∨ u.ownBlock = some j) c aS2 w' ∧ Kp (fun j => ¬ (j < v.heap.size ∨ u.ownBlock = some j)) v3 w' := (hS3.tryc (id := 7) (by decide)).mono fun e w' ⟨e1, e2, e3⟩ => by
    rw [a_t7] at e1
    rw [try_err hok2 (by rw [a_t7]; decide)] at e2
    exact ⟨e1, e2, e3⟩
  replace c7 := Lib.hid c7
  replace hS3 := Lib.hid hS3
  replace hk3 := Lib.hid hk3
  replace hr3 := Lib.hid hr3
  go_upto_region 8 with (go_at_call 18; (with_reducible refine c7.out.mono ?_); rintro e v4 ⟨rfl, hS4, hk4⟩)
  have c8 : Calls Tryz.prog 18 #[.pointer (some ⟨c.gb, 0, none⟩), .pointer (some ⟨c.kb, 0, none⟩), .int .i64 8] v4 fun e w' => e = .returned (.int .i64 10) ∧ PS (fun j => j < v.heap.size ∨ u.ownBlock = some j) c aS2 w' ∧ Kp (fun j => ¬ (j < v.heap.size ∨ u.ownBlock = some j)) v4 w' := (hS4.tryc (id := 8) (by decide)).mono fun e w' ⟨e1, e2, e3⟩ => by
    rw [a_t8] at e1
    rw [try_err hok2 (by rw [a_t8]; decide)] at e2
    exact ⟨e1, e2, e3⟩
  replace c8 := Lib.hid c8
  replace hS4 := Lib.hid hS4
  replace hk4 := Lib.hid hk4
  go_upto_region 9 with (go_at_call 18; (with_reducible refine c8.out.mono ?_); rintro e v5 ⟨rfl, hS5, hk5⟩)
  have hK45 := hk4.out.trans hk5
  have hr5 : Dd.IRow v5 u [7] := irow_kept hr3.out fun g hg => hK45.block g (World.ownsRow.lt hr3.out g hg).2 fun hn => hn (.inr hg)
  have hb5 : Below v.heap.size v v5 := (hb1.out.trans (hk2.out.below hb1.out.size fun j hj hn => hn hj)).trans (((hk3.out.trans (hK45.mono fun j _ hn hk => hn (.inl hk))).below (Nat.le_trans hb1.out.size hk2.out.size) fun j hj hn => hn hj))
  have hsz := hF.out.sz
  have j2 := (hb5.cell (p := ⟨w.heap.size + 6, 2, none⟩) (by show w.heap.size + 6 < _; omega)).trans k2
  have hd5 : v5.heap[w.heap.size + 4]? = some d7.obj ∨ True := .inr trivial
  have dc : ∀ (i : Nat) (x : Int), v.cell? ⟨w.heap.size + 4, i, none⟩ = some (.int .i64 x) → v5.cell? ⟨w.heap.size + 4, i, none⟩ = some (.int .i64 x) := fun i x h => (hb5.cell (p := ⟨w.heap.size + 4, i, none⟩) (by show w.heap.size + 4 < _; omega)).trans h
  have m0 := dc 0 7 (obj_cell hF.out.d rfl)
  have m1 := dc 1 0 (obj_cell hF.out.d rfl)
  have m2 := dc 2 1 (obj_cell hF.out.d rfl)
  have m3 := dc 3 0 (obj_cell hF.out.d rfl)
  have m4 := dc 4 1 (obj_cell hF.out.d rfl)
  have m5 := dc 5 100 (obj_cell hF.out.d rfl)
  have m6 := dc 6 80 (obj_cell hF.out.d rfl)
  have c17 : Calls Tryz.prog 17 #[.agg #[.int .i64 7, .int .i64 0, .int .i64 1, .int .i64 0, .int .i64 1, .int .i64 100, .int .i64 80]] v5 fun e w' => ∃ b, e = .returned (.slice (some ⟨b, 0, none⟩) 4 4) ∧ Below v5.heap.size v5 w' := (legs_any d7 d7_in (by decide) (by decide) v5).mono fun e w' ⟨b, e1, _, _, _, e2⟩ => ⟨b, e1, e2⟩
  have c20 : ∀ v6, Below v5.heap.size v5 v6 → Calls Tryz.prog 20 #[u, .slice (some ⟨v6.heap.size, 0, none⟩) 1 1] (v6.alloc (.cells #[.int .i64 7] 3)) fun e w' => e = .returned (.bool true) ∧ Below v5.heap.size v5 w' := fun v6 hb6 => by
    have hb7 : Below v5.heap.size v5 (v6.alloc (.cells #[.int .i64 7] 3)) := hb6.trans (((Below.refl _ v6).alloc (Nat.le_refl _) _).mono hb6.size)
    refine (Dd.same_any u _ [7] [7] _ (irow_kept hr5 fun g hg => hb7.block g (World.ownsRow.lt hr5 g hg).2) (irow_one v6 7) (by simp) (by simp)).mono ?_
    rintro e w' ⟨e1, n, rfl⟩
    exact ⟨e1, ⟨hb7.os, hb7.tape, hb7.output, hb7.size, hb7.block⟩⟩
  have cGl : ∀ v7, Below v5.heap.size v5 v7 → Calls Tryz.prog 9 #[.pointer (some ⟨c.gb, 0, none⟩)] v7 fun e w' => e = .returned (.pointer (some ⟨c.lb, 0, none⟩)) ∧ v7 = w' := fun v7 hb7 => (hS5.below hb7).ledger
  have cG0 : ∀ v7, Below v5.heap.size v5 v7 → Calls Tryz.prog 21 #[.pointer (some ⟨c.lb, 0, none⟩), .int .i64 0, .int .i64 1] v7 fun e w' => e = .returned (.int .i64 80) ∧ v7 = w' := fun v7 hb7 => by
    have := (hS5.below hb7).get 0 1
    rw [a_g0] at this
    exact this
  have cG1 : ∀ v7, Below v5.heap.size v5 v7 → Calls Tryz.prog 21 #[.pointer (some ⟨c.lb, 0, none⟩), .int .i64 1, .int .i64 0] v7 fun e w' => e = .returned (.int .i64 100) ∧ v7 = w' := fun v7 hb7 => by
    have := (hS5.below hb7).get 1 0
    rw [a_g1] at this
    exact this
  replace c20 := Lib.hid c20
  replace cGl := Lib.hid cGl
  replace cG0 := Lib.hid cG0
  replace cG1 := Lib.hid cG1
  replace hS5 := Lib.hid hS5
  replace hb5 := Lib.hid hb5
  replace hr5 := Lib.hid hr5
  replace hK45 := Lib.hid hK45
  replace hk5 := Lib.hid hk5
  clear dc hd5
  go_wp2_with (first | (go_at_call 17; (with_reducible refine c17.mono ?_); rintro e v6 ⟨b, rfl, hb6⟩; have c20' := Lib.hid (c20.out v6 hb6); replace hb6 := Lib.hid hb6) | (go_at_call 20; (with_reducible refine c20'.out.mono ?_); rintro e v8 ⟨rfl, hb8⟩; have g1 := Lib.hid (cGl.out v8 hb8); have g2 := Lib.hid (cG0.out v8 hb8); have g3 := Lib.hid (cG1.out v8 hb8); replace hb8 := Lib.hid hb8) | (go_at_call 9; (with_reducible refine g1.out.mono ?_); rintro e v' ⟨rfl, rfl⟩) | (go_at_call 21; (first | ((with_reducible refine g2.out.mono ?_); rintro e v' ⟨rfl, rfl⟩) | ((with_reducible refine g3.out.mono ?_); rintro e v' ⟨rfl, rfl⟩))))
  go_ret
  exact ⟨rfl, hF.out.bl.trans ((hb5.out.trans (hb8.out.mono hb5.out.size)).mono hF.out.bl.size)⟩
end Go.Proofs.YtiehbbhjpcnbnaaGreat
