/- The contract of the laws' do: one operation of both disks. -/
import Derived.Test.YtgfemabicjbegaaF4
namespace Go.Proofs.Ytgfemabicjbegaa
open Go.RowKit
set_option linter.unusedVariables false

/-- an operation -/
structure DOp where
  Do : Int
  File : Int
  N : Int
  To : Int
  Bs : ByteArray
  K : Nat → Int
structure DOp.Ok (x : DOp) : Prop where
  n : x.N ≤ 9223372036854775807
  k : ∀ i, x.K i ≤ 9223372036854775807
def DOp.arr (x : DOp) : Array Value := #[.int .i64 x.Do, .int .i64 x.File, .int .i64 x.N, .int .i64 x.To, .string x.Bs, .int .i64 (x.K 0), .int .i64 (x.K 1), .int .i64 (x.K 2), .int .i64 (x.K 3)]
/-- what it makes of a disk -/
def DM.step (m : DM) (x : DOp) : DM :=
  if x.Do = 0 then (m.app x.File (bl x.Bs)).2 else if x.Do = 1 then (m.syn x.File).2 else if x.Do = 2 then (m.cut x.File x.N).2 else if x.Do = 3 then (m.mov x.File x.To).2
  else if x.Do = 4 then m.setf x.N else if x.Do = 5 then m.crash (x.K 0) (x.K 1) (x.K 2) (x.K 3) else m
theorem DM.Ok.step {m : DM} (h : m.Ok) (x : DOp) (hx : x.Ok) : (m.step x).Ok := by
  unfold DM.step
  split
  · exact h.app _ _
  split
  · exact h.syn _
  split
  · exact h.cut _ _
  split
  · exact h.mov _ _
  split
  · exact h.setf _ hx.n
  split
  · exact h.crash _ _ _ _
  · exact h

/-- both disks -/
structure Two (P : Nat → Prop) (w : World) (d r : Nat) (m : DM) : Prop where
  disk : IsD P w d m
  ref : IsR w r m
  ok : m.Ok
  up : ∀ j, w.heap.size ≤ j → P j
  notr : ¬ P r

theorem pr_ne {P : Nat → Prop} {r : Nat} (h : ¬ P r) : ∀ j, P j → j ≠ r := fun j hj e => h (e ▸ hj)

/-- both disks, and the operation's box, beside them -/
structure Inn (Q : Nat → Prop) (W : World) (d r g : Nat) (m : DM) (x : DOp) : Prop where
  disk : IsD Q W d m
  ref : IsR W r m
  ok : m.Ok
  up : ∀ j, W.heap.size ≤ j → Q j
  notg : ¬ Q g
  notr : ¬ Q r
  gr : g ≠ r
  box : W.heap[g]? = some (.cells x.arr 33 (0, 0))

theorem inn_of {P : Nat → Prop} {w : World} {d r : Nat} {m : DM} (h : Two P w d r m) (x : DOp) :
    ∃ Q : Nat → Prop, Inn Q (w.alloc (.cells x.arr 33)) d r w.heap.size m x ∧
      ∀ w' m', IsD Q w' d m' → IsR w' r m' → m'.Ok → Kp (fun j => Q j ∨ j = r) (w.alloc (.cells x.arr 33)) w' → Two P w' d r m' ∧ Kp (fun j => P j ∨ j = r) w w' := by
  obtain ⟨hD, hR, ok, hup, hnr⟩ := h
  have hrl := obj_lt hR
  have hK0 : ∀ F, Kp F w (w.alloc (.cells x.arr 33)) := fun F => (Kp.refl F w).alloc _
  refine ⟨fun j => P j ∧ j ≠ w.heap.size, ⟨(hD.weak (fun j hj hp => ⟨hp, by omega⟩)).kept (hK0 fun _ => False) (fun _ _ _ h => h), hR.kept (hK0 fun _ => False) (fun h => h), ok, fun j hj => ?_, fun h => h.2 rfl, fun h => hnr h.1, by omega, heap_alloc_new w _⟩, fun w' m' a b c k => ⟨⟨a.weak fun _ _ h => h.1, b, c, fun j hj => hup j ?_, hnr⟩, ?_⟩⟩
  · rw [World.size_alloc] at hj
    exact ⟨hup j (by omega), by omega⟩
  · have := k.size; rw [World.size_alloc] at this; omega
  · refine (hK0 _).trans (k.mono fun j _ hj => ?_)
    rcases hj with hj | hj
    · exact .inl hj.1
    · exact .inr hj

/-- the cells of the operation -/
theorem Inn.cell {Q : Nat → Prop} {W : World} {d r g : Nat} {m : DM} {x : DOp} (h : Inn Q W d r g m x) {i : Nat} {v : Value} (hi : x.arr[i]? = some v) : W.cell? ⟨g, i, none⟩ = some v := obj_cell h.box hi
/-- behind the program's call, then the reference's -/
theorem Inn.first {Q : Nat → Prop} {W w1 : World} {d r g : Nat} {m : DM} {x : DOp} (h : Inn Q W d r g m x) (hK : Kp Q W w1) : IsR w1 r m ∧ w1.heap[g]? = some (.cells x.arr 33 (0, 0)) ∧ W.heap.size ≤ w1.heap.size :=
  ⟨h.ref.kept hK h.notr, (hK.block g (obj_lt h.box) h.notg).trans h.box, hK.size⟩
theorem Inn.second {Q : Nat → Prop} {W w1 w2 : World} {d r g : Nat} {m m' : DM} {x : DOp} (h : Inn Q W d r g m x) (hK : Kp Q W w1) (hD : IsD Q w1 d m') (hK2 : Kp (· = r) w1 w2) :
    IsD Q w2 d m' ∧ Kp (fun j => Q j ∨ j = r) W w2 ∧ w2.heap[g]? = some (.cells x.arr 33 (0, 0)) :=
  ⟨hD.kept hK2 fun j _ hj e => h.notr (e ▸ hj), (hK.mono fun _ _ h => .inl h).trans (hK2.mono fun _ _ h => .inr h), (hK2.block g (obj_lt (h.first hK).2.1) h.gr).trans (h.first hK).2.1⟩
theorem Inn.drew {Q : Nat → Prop} {W : World} {d r g : Nat} {m : DM} {x : DOp} (h : Inn Q W d r g m x) : Inn Q W.drew d r g m x :=
  ⟨h.disk.drew, h.ref, h.ok, h.up, h.notg, h.notr, h.gr, h.box⟩

theorem fuseD_any (P : Nat → Prop) (b : Nat) (m : DM) (n : Int) (w : World) (h : IsD P w b m) :
    Calls Try.prog 16 #[.pointer (some ⟨b, 0, none⟩), .int .i64 n] w fun e w' => e = .returned (.tuple #[]) ∧ IsD P w' b (m.setf n) ∧ Kp P w w' := by
  obtain ⟨vs, h⟩ := h
  refine (fuse_any P b m vs n w h).mono ?_
  rintro e w' ⟨rfl, h1, h2⟩
  exact ⟨rfl, ⟨vs, h1⟩, h2.mono fun j _ e => by subst e; exact h.own⟩
theorem readD_any (P : Nat → Prop) (b : Nat) (m : DM) (f : Int) (w : World) (h : IsD P w b m) :
    Calls Try.prog 12 #[.pointer (some ⟨b, 0, none⟩), .int .i64 f] w fun e w' => e = .returned (.tuple #[if isFile f then sv (m.B f.toNat) else sv [], .int .i64 (if isFile f then 0 else 1)]) ∧ w = w' := by
  obtain ⟨vs, h⟩ := h
  exact read_any P b m vs f w h

set_option maxHeartbeats 4000000 in
set_option maxRecDepth 100000 in
theorem doop0 (P : Nat → Prop) (d r : Nat) (m : DM) (x : DOp) (w : World) (h : Two P w d r m) (hx : x.Ok)  (e0 : x.Do = 0) :
    Calls Try.prog 9 #[.pointer (some ⟨d, 0, none⟩), .pointer (some ⟨r, 0, none⟩), .agg x.arr] w fun e w' => e = .returned (.bool true) ∧ Two P w' d r (m.step x) ∧ Kp (fun j => P j ∨ j = r) w w' := by
  obtain ⟨Q, hI, hfin⟩ := inn_of h x
  have okS := h.ok.step x hx
  clear h
  have k0 : (w.alloc (.cells x.arr 33)).cell? ⟨w.heap.size, 0, none⟩ = some (.int .i64 x.Do) := hI.cell rfl
  have k1 : (w.alloc (.cells x.arr 33)).cell? ⟨w.heap.size, 1, none⟩ = some (.int .i64 x.File) := hI.cell rfl
  have k4 : (w.alloc (.cells x.arr 33)).cell? ⟨w.heap.size, 4, none⟩ = some (.string x.Bs) := hI.cell rfl
  generalize hW : w.alloc (.cells x.arr 33) = W at *
  generalize hg : w.heap.size = g at *
  replace hI := Lib.hid hI
  replace hfin := Lib.hid hfin
  replace hW := Lib.hid hW
  replace hg := Lib.hid hg
  unfold DM.step at okS ⊢
  rw [if_pos e0] at okS ⊢
  have hd0 : (x.Do == 0) = true := by simp [e0]
  replace e0 := Lib.hid e0
  have cA := app_any Q d m x.File x.Bs _ hI.out.drew.disk hI.out.ok hI.out.up
  have cR := fun w h => appR_any r m x.File x.Bs w h hI.out.ok
  generalize hres : m.app x.File (bl x.Bs) = res at *
  obtain ⟨v, m'⟩ := res
  replace hres := Lib.hid hres
  replace cA := Lib.hid cA
  replace cR := Lib.hid cR
  replace okS := Lib.hid okS
  go_enter Try.func9, Try.ntmps9
  go_upto_region 1 with (fail)
  rw [hg.out]
  change Code.wp _ _ _ _ (w.alloc (.cells x.arr 33))
  rw [hW.out]
  go_upto_region 3 with (fail)
  go_region_held3 (fun w' => w'.cell? ⟨g, 1, none⟩ = some (.int .i64 x.File) ∧ w'.cell? ⟨g, 4, none⟩ = some (.string x.Bs)) (first | exact ⟨k1, k4⟩ | exact hHeld | exact ⟨q1, q4⟩)
    (first
      | (go_at_call 14; (with_reducible refine cA.out.mono ?_); rintro e w1 ⟨rfl, hD1, hK1⟩; obtain ⟨hR1, hb1, _⟩ := hI.out.drew.first hK1; have q1 : w1.cell? ⟨g, 1, none⟩ = some (.int .i64 x.File) := obj_cell hb1 rfl; have q4 : w1.cell? ⟨g, 4, none⟩ = some (.string x.Bs) := obj_cell hb1 rfl; replace hD1 := Lib.hid hD1; replace hK1 := Lib.hid hK1; replace hR1 := Lib.hid hR1; clear hb1)
      | (go_at_call 20; (with_reducible refine (cR.out _ hR1.out).mono ?_); rintro e w2 ⟨rfl, hR2, hK2⟩; obtain ⟨hD2, hk2, hb2⟩ := hI.out.drew.second hK1.out hD1.out hK2; have q1 : w2.cell? ⟨g, 1, none⟩ = some (.int .i64 x.File) := obj_cell hb2 rfl; have q4 : w2.cell? ⟨g, 4, none⟩ = some (.string x.Bs) := obj_cell hb2 rfl; replace hD2 := Lib.hid hD2; replace hk2 := Lib.hid hk2; replace hR2 := Lib.hid hR2; clear hb2 hK2))
  go_wp2_with fail
  go_ret
  exact ⟨rfl, hfin.out _ _ hD2.out hR2.out okS.out ((Kp.refl _ _).drew.trans hk2.out)⟩

set_option maxHeartbeats 4000000 in
set_option maxRecDepth 100000 in
theorem doop1 (P : Nat → Prop) (d r : Nat) (m : DM) (x : DOp) (w : World) (h : Two P w d r m) (hx : x.Ok) (e0 : ¬ x.Do = 0) (e1 : x.Do = 1) :
    Calls Try.prog 9 #[.pointer (some ⟨d, 0, none⟩), .pointer (some ⟨r, 0, none⟩), .agg x.arr] w fun e w' => e = .returned (.bool true) ∧ Two P w' d r (m.step x) ∧ Kp (fun j => P j ∨ j = r) w w' := by
  obtain ⟨Q, hI, hfin⟩ := inn_of h x
  have okS := h.ok.step x hx
  clear h
  have k0 : (w.alloc (.cells x.arr 33)).cell? ⟨w.heap.size, 0, none⟩ = some (.int .i64 x.Do) := hI.cell rfl
  have k1 : (w.alloc (.cells x.arr 33)).cell? ⟨w.heap.size, 1, none⟩ = some (.int .i64 x.File) := hI.cell rfl
  generalize hW : w.alloc (.cells x.arr 33) = W at *
  generalize hg : w.heap.size = g at *
  replace hI := Lib.hid hI
  replace hfin := Lib.hid hfin
  replace hW := Lib.hid hW
  replace hg := Lib.hid hg
  unfold DM.step at okS ⊢
  rw [if_neg e0, if_pos e1] at okS ⊢
  have hd0 : (x.Do == 0) = false := by simpa using e0
  have hd1 : (x.Do == 1) = true := by simp [e1]
  replace e1 := Lib.hid e1
  replace e0 := Lib.hid e0
  have cA := sync_any Q d m x.File _ hI.out.drew.disk hI.out.ok hI.out.up
  have cR := fun w h => syncR_any r m x.File w h hI.out.ok
  generalize hres : m.syn x.File = res at *
  obtain ⟨v, m'⟩ := res
  replace hres := Lib.hid hres
  replace cA := Lib.hid cA
  replace cR := Lib.hid cR
  replace okS := Lib.hid okS
  go_enter Try.func9, Try.ntmps9
  go_upto_region 1 with (fail)
  rw [hg.out]
  change Code.wp _ _ _ _ (w.alloc (.cells x.arr 33))
  rw [hW.out]
  go_upto_region 5 with (fail)
  go_region_held3 (fun w' => w'.cell? ⟨g, 1, none⟩ = some (.int .i64 x.File)) (first | exact k1 | exact hHeld | exact q1)
    (first
      | (go_at_call 17; (with_reducible refine cA.out.mono ?_); rintro e w1 ⟨rfl, hD1, hK1⟩; obtain ⟨hR1, hb1, _⟩ := hI.out.drew.first hK1; have q1 : w1.cell? ⟨g, 1, none⟩ = some (.int .i64 x.File) := obj_cell hb1 rfl; replace hD1 := Lib.hid hD1; replace hK1 := Lib.hid hK1; replace hR1 := Lib.hid hR1; clear hb1)
      | (go_at_call 21; (with_reducible refine (cR.out _ hR1.out).mono ?_); rintro e w2 ⟨rfl, hR2, hK2⟩; obtain ⟨hD2, hk2, hb2⟩ := hI.out.drew.second hK1.out hD1.out hK2; have q1 : w2.cell? ⟨g, 1, none⟩ = some (.int .i64 x.File) := obj_cell hb2 rfl; replace hD2 := Lib.hid hD2; replace hk2 := Lib.hid hk2; replace hR2 := Lib.hid hR2; clear hb2 hK2))
  go_wp2_with fail
  go_ret
  exact ⟨rfl, hfin.out _ _ hD2.out hR2.out okS.out ((Kp.refl _ _).drew.trans hk2.out)⟩

set_option maxHeartbeats 4000000 in
set_option maxRecDepth 100000 in
theorem doop2 (P : Nat → Prop) (d r : Nat) (m : DM) (x : DOp) (w : World) (h : Two P w d r m) (hx : x.Ok) (e0 : ¬ x.Do = 0) (e1 : ¬ x.Do = 1) (e2 : x.Do = 2) :
    Calls Try.prog 9 #[.pointer (some ⟨d, 0, none⟩), .pointer (some ⟨r, 0, none⟩), .agg x.arr] w fun e w' => e = .returned (.bool true) ∧ Two P w' d r (m.step x) ∧ Kp (fun j => P j ∨ j = r) w w' := by
  obtain ⟨Q, hI, hfin⟩ := inn_of h x
  have okS := h.ok.step x hx
  clear h
  have k0 : (w.alloc (.cells x.arr 33)).cell? ⟨w.heap.size, 0, none⟩ = some (.int .i64 x.Do) := hI.cell rfl
  have k1 : (w.alloc (.cells x.arr 33)).cell? ⟨w.heap.size, 1, none⟩ = some (.int .i64 x.File) := hI.cell rfl
  have k2 : (w.alloc (.cells x.arr 33)).cell? ⟨w.heap.size, 2, none⟩ = some (.int .i64 x.N) := hI.cell rfl
  generalize hW : w.alloc (.cells x.arr 33) = W at *
  generalize hg : w.heap.size = g at *
  replace hI := Lib.hid hI
  replace hfin := Lib.hid hfin
  replace hW := Lib.hid hW
  replace hg := Lib.hid hg
  unfold DM.step at okS ⊢
  rw [if_neg e0, if_neg e1, if_pos e2] at okS ⊢
  have hd0 : (x.Do == 0) = false := by simpa using e0
  have hd1 : (x.Do == 1) = false := by simpa using e1
  have hd2 : (x.Do == 2) = true := by simp [e2]
  replace e2 := Lib.hid e2
  replace e0 := Lib.hid e0
  replace e1 := Lib.hid e1
  have cA := cut_any Q d m x.File x.N _ hI.out.drew.disk hI.out.ok hI.out.up
  have cR := fun w h => cutR_any r m x.File x.N w h hI.out.ok
  generalize hres : m.cut x.File x.N = res at *
  obtain ⟨v, m'⟩ := res
  replace hres := Lib.hid hres
  replace cA := Lib.hid cA
  replace cR := Lib.hid cR
  replace okS := Lib.hid okS
  go_enter Try.func9, Try.ntmps9
  go_upto_region 1 with (fail)
  rw [hg.out]
  change Code.wp _ _ _ _ (w.alloc (.cells x.arr 33))
  rw [hW.out]
  go_upto_region 7 with (fail)
  go_region_held3 (fun w' => w'.cell? ⟨g, 1, none⟩ = some (.int .i64 x.File) ∧ w'.cell? ⟨g, 2, none⟩ = some (.int .i64 x.N)) (first | exact ⟨k1, k2⟩ | exact hHeld | exact ⟨q1, q2⟩)
    (first
      | (go_at_call 18; (with_reducible refine cA.out.mono ?_); rintro e w1 ⟨rfl, hD1, hK1⟩; obtain ⟨hR1, hb1, _⟩ := hI.out.drew.first hK1; have q1 : w1.cell? ⟨g, 1, none⟩ = some (.int .i64 x.File) := obj_cell hb1 rfl; have q2 : w1.cell? ⟨g, 2, none⟩ = some (.int .i64 x.N) := obj_cell hb1 rfl; replace hD1 := Lib.hid hD1; replace hK1 := Lib.hid hK1; replace hR1 := Lib.hid hR1; clear hb1)
      | (go_at_call 22; (with_reducible refine (cR.out _ hR1.out).mono ?_); rintro e w2 ⟨rfl, hR2, hK2⟩; obtain ⟨hD2, hk2, hb2⟩ := hI.out.drew.second hK1.out hD1.out hK2; have q1 : w2.cell? ⟨g, 1, none⟩ = some (.int .i64 x.File) := obj_cell hb2 rfl; have q2 : w2.cell? ⟨g, 2, none⟩ = some (.int .i64 x.N) := obj_cell hb2 rfl; replace hD2 := Lib.hid hD2; replace hk2 := Lib.hid hk2; replace hR2 := Lib.hid hR2; clear hb2 hK2))
  go_wp2_with fail
  go_ret
  exact ⟨rfl, hfin.out _ _ hD2.out hR2.out okS.out ((Kp.refl _ _).drew.trans hk2.out)⟩

set_option maxHeartbeats 4000000 in
set_option maxRecDepth 100000 in
theorem doop3 (P : Nat → Prop) (d r : Nat) (m : DM) (x : DOp) (w : World) (h : Two P w d r m) (hx : x.Ok) (e0 : ¬ x.Do = 0) (e1 : ¬ x.Do = 1) (e2 : ¬ x.Do = 2) (e3 : x.Do = 3) :
    Calls Try.prog 9 #[.pointer (some ⟨d, 0, none⟩), .pointer (some ⟨r, 0, none⟩), .agg x.arr] w fun e w' => e = .returned (.bool true) ∧ Two P w' d r (m.step x) ∧ Kp (fun j => P j ∨ j = r) w w' := by
  obtain ⟨Q, hI, hfin⟩ := inn_of h x
  have okS := h.ok.step x hx
  clear h
  have k0 : (w.alloc (.cells x.arr 33)).cell? ⟨w.heap.size, 0, none⟩ = some (.int .i64 x.Do) := hI.cell rfl
  have k1 : (w.alloc (.cells x.arr 33)).cell? ⟨w.heap.size, 1, none⟩ = some (.int .i64 x.File) := hI.cell rfl
  have k3 : (w.alloc (.cells x.arr 33)).cell? ⟨w.heap.size, 3, none⟩ = some (.int .i64 x.To) := hI.cell rfl
  generalize hW : w.alloc (.cells x.arr 33) = W at *
  generalize hg : w.heap.size = g at *
  replace hI := Lib.hid hI
  replace hfin := Lib.hid hfin
  replace hW := Lib.hid hW
  replace hg := Lib.hid hg
  unfold DM.step at okS ⊢
  rw [if_neg e0, if_neg e1, if_neg e2, if_pos e3] at okS ⊢
  have hd0 : (x.Do == 0) = false := by simpa using e0
  have hd1 : (x.Do == 1) = false := by simpa using e1
  have hd2 : (x.Do == 2) = false := by simpa using e2
  have hd3 : (x.Do == 3) = true := by simp [e3]
  replace e3 := Lib.hid e3
  replace e0 := Lib.hid e0
  replace e1 := Lib.hid e1
  replace e2 := Lib.hid e2
  have cA := mov_any Q d m x.File x.To _ hI.out.drew.disk hI.out.ok hI.out.up
  have cR := fun w h => movR_any r m x.File x.To w h hI.out.ok
  generalize hres : m.mov x.File x.To = res at *
  obtain ⟨v, m'⟩ := res
  replace hres := Lib.hid hres
  replace cA := Lib.hid cA
  replace cR := Lib.hid cR
  replace okS := Lib.hid okS
  go_enter Try.func9, Try.ntmps9
  go_upto_region 1 with (fail)
  rw [hg.out]
  change Code.wp _ _ _ _ (w.alloc (.cells x.arr 33))
  rw [hW.out]
  go_upto_region 9 with (fail)
  go_region_held3 (fun w' => w'.cell? ⟨g, 1, none⟩ = some (.int .i64 x.File) ∧ w'.cell? ⟨g, 3, none⟩ = some (.int .i64 x.To)) (first | exact ⟨k1, k3⟩ | exact hHeld | exact ⟨q1, q3⟩)
    (first
      | (go_at_call 15; (with_reducible refine cA.out.mono ?_); rintro e w1 ⟨rfl, hD1, hK1⟩; obtain ⟨hR1, hb1, _⟩ := hI.out.drew.first hK1; have q1 : w1.cell? ⟨g, 1, none⟩ = some (.int .i64 x.File) := obj_cell hb1 rfl; have q3 : w1.cell? ⟨g, 3, none⟩ = some (.int .i64 x.To) := obj_cell hb1 rfl; replace hD1 := Lib.hid hD1; replace hK1 := Lib.hid hK1; replace hR1 := Lib.hid hR1; clear hb1)
      | (go_at_call 23; (with_reducible refine (cR.out _ hR1.out).mono ?_); rintro e w2 ⟨rfl, hR2, hK2⟩; obtain ⟨hD2, hk2, hb2⟩ := hI.out.drew.second hK1.out hD1.out hK2; have q1 : w2.cell? ⟨g, 1, none⟩ = some (.int .i64 x.File) := obj_cell hb2 rfl; have q3 : w2.cell? ⟨g, 3, none⟩ = some (.int .i64 x.To) := obj_cell hb2 rfl; replace hD2 := Lib.hid hD2; replace hk2 := Lib.hid hk2; replace hR2 := Lib.hid hR2; clear hb2 hK2))
  go_wp2_with fail
  go_ret
  exact ⟨rfl, hfin.out _ _ hD2.out hR2.out okS.out ((Kp.refl _ _).drew.trans hk2.out)⟩

set_option maxHeartbeats 4000000 in
set_option maxRecDepth 100000 in
theorem doop4 (P : Nat → Prop) (d r : Nat) (m : DM) (x : DOp) (w : World) (h : Two P w d r m) (hx : x.Ok) (e0 : ¬ x.Do = 0) (e1 : ¬ x.Do = 1) (e2 : ¬ x.Do = 2) (e3 : ¬ x.Do = 3) (e4 : x.Do = 4) :
    Calls Try.prog 9 #[.pointer (some ⟨d, 0, none⟩), .pointer (some ⟨r, 0, none⟩), .agg x.arr] w fun e w' => e = .returned (.bool true) ∧ Two P w' d r (m.step x) ∧ Kp (fun j => P j ∨ j = r) w w' := by
  obtain ⟨Q, hI, hfin⟩ := inn_of h x
  have okS := h.ok.step x hx
  clear h
  have k0 : (w.alloc (.cells x.arr 33)).cell? ⟨w.heap.size, 0, none⟩ = some (.int .i64 x.Do) := hI.cell rfl
  have k2 : (w.alloc (.cells x.arr 33)).cell? ⟨w.heap.size, 2, none⟩ = some (.int .i64 x.N) := hI.cell rfl
  generalize hW : w.alloc (.cells x.arr 33) = W at *
  generalize hg : w.heap.size = g at *
  replace hI := Lib.hid hI
  replace hfin := Lib.hid hfin
  replace hW := Lib.hid hW
  replace hg := Lib.hid hg
  unfold DM.step at okS ⊢
  rw [if_neg e0, if_neg e1, if_neg e2, if_neg e3, if_pos e4] at okS ⊢
  have hd0 : (x.Do == 0) = false := by simpa using e0
  have hd1 : (x.Do == 1) = false := by simpa using e1
  have hd2 : (x.Do == 2) = false := by simpa using e2
  have hd3 : (x.Do == 3) = false := by simpa using e3
  have hd4 : (x.Do == 4) = true := by simp [e4]
  replace e4 := Lib.hid e4
  replace e0 := Lib.hid e0
  replace e1 := Lib.hid e1
  replace e2 := Lib.hid e2
  replace e3 := Lib.hid e3
  have cA := fuseD_any Q d m x.N _ hI.out.disk
  have hmx := fun w => max2_run x.N (-1) w
  have cN : ∀ {u : Value}, (∃ w1 : World, IsR w1 r m) → True := fun _ => trivial
  clear cN
  replace cA := Lib.hid cA
  replace okS := Lib.hid okS
  go_enter Try.func9, Try.ntmps9
  go_upto_region 1 with (fail)
  rw [hg.out]
  change Code.wp _ _ _ _ (w.alloc (.cells x.arr 33))
  rw [hW.out]
  go_wp2_with (first | (go_at_call 16; (with_reducible refine cA.out.mono ?_); rintro e w1 ⟨rfl, hD1, hK1⟩; obtain ⟨hR1, hb1, _⟩ := hI.out.first hK1; have q2 : w1.cell? ⟨g, 2, none⟩ = some (.int .i64 x.N) := obj_cell hb1 rfl; have c9 : w1.cell? ⟨r, 9, none⟩ = some (.int .i64 m.fuse) := obj_cell hR1 rfl; have z := obj_free hR1; replace hD1 := Lib.hid hD1; replace hK1 := Lib.hid hK1; replace hR1 := Lib.hid hR1; clear hb1))
  go_ret
  obtain ⟨hD2, hk2, hb2⟩ := hI.out.second hK1.out hD1.out (kp_set (b := r) (i := 9) (v := .int .i64 (max x.N (-1))))
  exact ⟨rfl, hfin.out _ _ hD2 (obj_set hR1.out 9 _) okS.out hk2⟩

set_option maxHeartbeats 4000000 in
set_option maxRecDepth 100000 in
theorem doop5 (P : Nat → Prop) (d r : Nat) (m : DM) (x : DOp) (w : World) (h : Two P w d r m) (hx : x.Ok) (e0 : ¬ x.Do = 0) (e1 : ¬ x.Do = 1) (e2 : ¬ x.Do = 2) (e3 : ¬ x.Do = 3) (e4 : ¬ x.Do = 4) (e5 : x.Do = 5) :
    Calls Try.prog 9 #[.pointer (some ⟨d, 0, none⟩), .pointer (some ⟨r, 0, none⟩), .agg x.arr] w fun e w' => e = .returned (.bool true) ∧ Two P w' d r (m.step x) ∧ Kp (fun j => P j ∨ j = r) w w' := by
  obtain ⟨Q, hI, hfin⟩ := inn_of h x
  have okS := h.ok.step x hx
  clear h
  have k0 : (w.alloc (.cells x.arr 33)).cell? ⟨w.heap.size, 0, none⟩ = some (.int .i64 x.Do) := hI.cell rfl
  have k5 : (w.alloc (.cells x.arr 33)).cell? ⟨w.heap.size, 5, none⟩ = some (.int .i64 (x.K 0)) := hI.cell rfl
  have k6 : (w.alloc (.cells x.arr 33)).cell? ⟨w.heap.size, 6, none⟩ = some (.int .i64 (x.K 1)) := hI.cell rfl
  have k7 : (w.alloc (.cells x.arr 33)).cell? ⟨w.heap.size, 7, none⟩ = some (.int .i64 (x.K 2)) := hI.cell rfl
  have k8 : (w.alloc (.cells x.arr 33)).cell? ⟨w.heap.size, 8, none⟩ = some (.int .i64 (x.K 3)) := hI.cell rfl
  generalize hW : w.alloc (.cells x.arr 33) = W at *
  generalize hg : w.heap.size = g at *
  replace hI := Lib.hid hI
  replace hfin := Lib.hid hfin
  replace hW := Lib.hid hW
  replace hg := Lib.hid hg
  unfold DM.step at okS ⊢
  rw [if_neg e0, if_neg e1, if_neg e2, if_neg e3, if_neg e4, if_pos e5] at okS ⊢
  have hd0 : (x.Do == 0) = false := by simpa using e0
  have hd1 : (x.Do == 1) = false := by simpa using e1
  have hd2 : (x.Do == 2) = false := by simpa using e2
  have hd3 : (x.Do == 3) = false := by simpa using e3
  have hd4 : (x.Do == 4) = false := by simpa using e4
  have hd5 : (x.Do == 5) = true := by simp [e5]
  replace e5 := Lib.hid e5
  replace e0 := Lib.hid e0
  replace e1 := Lib.hid e1
  replace e2 := Lib.hid e2
  replace e3 := Lib.hid e3
  replace e4 := Lib.hid e4
  have cA := crash_any Q d m x.K _ hI.out.disk hI.out.ok hI.out.up hx.k
  have cR := fun w h => crashR_any r m x.K w h hI.out.ok hx.k
  replace cA := Lib.hid cA
  replace cR := Lib.hid cR
  replace okS := Lib.hid okS
  go_enter Try.func9, Try.ntmps9
  go_upto_region 1 with (fail)
  rw [hg.out]
  change Code.wp _ _ _ _ (w.alloc (.cells x.arr 33))
  rw [hW.out]
  go_wp2_with (first
    | (go_at_call 13; (with_reducible refine cA.out.mono ?_); rintro e w1 ⟨rfl, hD1, hK1⟩; obtain ⟨hR1, hb1, _⟩ := hI.out.first hK1; have q5 : w1.cell? ⟨g, 5, none⟩ = some (.int .i64 (x.K 0)) := obj_cell hb1 rfl; have q6 : w1.cell? ⟨g, 6, none⟩ = some (.int .i64 (x.K 1)) := obj_cell hb1 rfl; have q7 : w1.cell? ⟨g, 7, none⟩ = some (.int .i64 (x.K 2)) := obj_cell hb1 rfl; have q8 : w1.cell? ⟨g, 8, none⟩ = some (.int .i64 (x.K 3)) := obj_cell hb1 rfl; replace hD1 := Lib.hid hD1; replace hK1 := Lib.hid hK1; replace hR1 := Lib.hid hR1; clear hb1)
    | (go_at_call 24; (with_reducible refine (cR.out _ hR1.out).mono ?_); rintro e w2 ⟨rfl, hR2, hK2⟩; obtain ⟨hD2, hk2, hb2⟩ := hI.out.second hK1.out hD1.out hK2; replace hD2 := Lib.hid hD2; replace hk2 := Lib.hid hk2; replace hR2 := Lib.hid hR2; clear hb2 hK2))
  go_ret
  exact ⟨rfl, hfin.out _ _ hD2.out hR2.out okS.out hk2.out⟩

set_option maxHeartbeats 4000000 in
set_option maxRecDepth 100000 in
theorem doop6 (P : Nat → Prop) (d r : Nat) (m : DM) (x : DOp) (w : World) (h : Two P w d r m) (hx : x.Ok) (e0 : ¬ x.Do = 0) (e1 : ¬ x.Do = 1) (e2 : ¬ x.Do = 2) (e3 : ¬ x.Do = 3) (e4 : ¬ x.Do = 4) (e5 : ¬ x.Do = 5) :
    Calls Try.prog 9 #[.pointer (some ⟨d, 0, none⟩), .pointer (some ⟨r, 0, none⟩), .agg x.arr] w fun e w' => e = .returned (.bool true) ∧ Two P w' d r (m.step x) ∧ Kp (fun j => P j ∨ j = r) w w' := by
  obtain ⟨Q, hI, hfin⟩ := inn_of h x
  have okS := h.ok.step x hx
  clear h
  have k0 : (w.alloc (.cells x.arr 33)).cell? ⟨w.heap.size, 0, none⟩ = some (.int .i64 x.Do) := hI.cell rfl
  have k1 : (w.alloc (.cells x.arr 33)).cell? ⟨w.heap.size, 1, none⟩ = some (.int .i64 x.File) := hI.cell rfl
  generalize hW : w.alloc (.cells x.arr 33) = W at *
  generalize hg : w.heap.size = g at *
  replace hI := Lib.hid hI
  replace hfin := Lib.hid hfin
  replace hW := Lib.hid hW
  replace hg := Lib.hid hg
  unfold DM.step at okS ⊢
  rw [if_neg e0, if_neg e1, if_neg e2, if_neg e3, if_neg e4, if_neg e5] at okS ⊢
  have hd0 : (x.Do == 0) = false := by simpa using e0
  have hd1 : (x.Do == 1) = false := by simpa using e1
  have hd2 : (x.Do == 2) = false := by simpa using e2
  have hd3 : (x.Do == 3) = false := by simpa using e3
  have hd4 : (x.Do == 4) = false := by simpa using e4
  have hd5 : (x.Do == 5) = false := by simpa using e5
  replace e0 := Lib.hid e0
  replace e1 := Lib.hid e1
  replace e2 := Lib.hid e2
  replace e3 := Lib.hid e3
  replace e4 := Lib.hid e4
  replace e5 := Lib.hid e5
  have cA := readD_any Q d m x.File _ hI.out.disk
  replace okS := Lib.hid okS
  cases hf : isFile x.File with
  | false =>
    rw [hf] at cA
    replace cA := Lib.hid cA
    have hor := isFile_no hf
    clear hf
    have es : sv [] = .string ⟨#[]⟩ := rfl
    simp only [Bool.false_eq_true, if_false, es] at cA
    replace cA := Lib.hid cA.out
    by_cases h1 : x.File < 0
    · have hd9 : decide (x.File < 0) = true := decide_eq_true h1
      go_enter Try.func9, Try.ntmps9
      go_upto_region 1 with (fail)
      rw [hg.out]
      change Code.wp _ _ _ _ (w.alloc (.cells x.arr 33))
      rw [hW.out]
      go_wp2_with (first | (go_at_call 12; (with_reducible refine cA.out.mono ?_); rintro e w1 ⟨rfl, rfl⟩))
      go_ret
      exact ⟨rfl, hfin.out _ _ hI.out.disk hI.out.ref okS.out (Kp.refl _ _)⟩
    · have hd9 : decide (x.File < 0) = false := decide_eq_false h1
      have hd8 : decide (3 < x.File) = true := decide_eq_true (by omega)
      go_enter Try.func9, Try.ntmps9
      go_upto_region 1 with (fail)
      rw [hg.out]
      change Code.wp _ _ _ _ (w.alloc (.cells x.arr 33))
      rw [hW.out]
      go_wp2_with (first | (go_at_call 12; (with_reducible refine cA.out.mono ?_); rintro e w1 ⟨rfl, rfl⟩))
      go_ret
      exact ⟨rfl, hfin.out _ _ hI.out.disk hI.out.ref okS.out (Kp.refl _ _)⟩
  | true =>
    rw [hf] at cA
    obtain ⟨k, hk, hk4⟩ := isFile_nat hf
    rw [hk] at cA k1
    simp only [if_true, Int.toNat_natCast] at cA
    have c := hI.out.ref.text hk4
    unfold sv at c cA
    replace cA := Lib.hid cA
    have hkz : (k : Int) < 4 := by omega
    have hkz3 : ¬ 3 < (k : Int) := by omega
    clear hf
    replace hk := Lib.hid hk
    generalize (⟨(m.B k).toArray⟩ : ByteArray) = t at *
    go_enter Try.func9, Try.ntmps9
    go_upto_region 1 with (fail)
    rw [hg.out]
    change Code.wp _ _ _ _ (w.alloc (.cells x.arr 33))
    rw [hW.out]
    go_upto_region 21 with (first | (go_at_call 12; (with_reducible refine cA.out.mono ?_); rintro e w1 ⟨rfl, rfl⟩))
    go_quiet (fail)
    go_wp2_with fail
    go_ret
    exact ⟨by simp, hfin.out _ _ (hI.out.disk.drewN _) hI.out.ref okS.out ((Kp.refl _ _).drewN _)⟩

theorem doop_any (P : Nat → Prop) (d r : Nat) (m : DM) (x : DOp) (w : World) (h : Two P w d r m) (hx : x.Ok) :
    Calls Try.prog 9 #[.pointer (some ⟨d, 0, none⟩), .pointer (some ⟨r, 0, none⟩), .agg x.arr] w fun e w' => e = .returned (.bool true) ∧ Two P w' d r (m.step x) ∧ Kp (fun j => P j ∨ j = r) w w' := by
  by_cases e0 : x.Do = 0
  · exact doop0 P d r m x w h hx e0
  by_cases e1 : x.Do = 1
  · exact doop1 P d r m x w h hx e0 e1
  by_cases e2 : x.Do = 2
  · exact doop2 P d r m x w h hx e0 e1 e2
  by_cases e3 : x.Do = 3
  · exact doop3 P d r m x w h hx e0 e1 e2 e3
  by_cases e4 : x.Do = 4
  · exact doop4 P d r m x w h hx e0 e1 e2 e3 e4
  by_cases e5 : x.Do = 5
  · exact doop5 P d r m x w h hx e0 e1 e2 e3 e4 e5
  · exact doop6 P d r m x w h hx e0 e1 e2 e3 e4 e5
end Go.Proofs.Ytgfemabicjbegaa
