/- The contract of Submit. -/
import Derived.Test.YtflbggehgjllcaaDoorDG
namespace Go.Proofs.YtflbggehgjllcaaDoor
open Go.RowKit Go.Maps
set_option linter.unusedVariables false
theorem eq33a : Tryd.prog.underlying 33 = some (.struct (Tryd.prog.fieldsOf 33)) := by kernel_rfl
theorem eq33b : Tryd.prog.stoodInHeld 33 = false := by kernel_rfl
theorem eq33d : Tryd.prog.fieldsOf 33 = #[⟨"Id", 3, 0, false, "", "", 0⟩, ⟨"A", 3, 1, false, "", "", 8⟩, ⟨"B", 3, 2, false, "", "", 16⟩, ⟨"SellCur", 3, 3, false, "", "", 24⟩, ⟨"BuyCur", 3, 4, false, "", "", 32⟩, ⟨"Sell", 2, 5, false, "", "", 40⟩, ⟨"Buy", 2, 6, false, "", "", 48⟩] := by kernel_rfl
def Dl.same (d e : Dl) : Bool := d.id == e.id && (d.a == e.a && (d.b == e.b && (d.sc == e.sc && (d.bc == e.bc && (d.s == e.s && d.t == e.t)))))
theorem Dl.same_iff {d e : Dl} : d.same e = true ↔ d = e := by
  obtain ⟨a1, a2, a3, a4, a5, a6, a7⟩ := d
  obtain ⟨b1, b2, b3, b4, b5, b6, b7⟩ := e
  unfold Dl.same
  simp
theorem eq_deal (d e : Dl) (w : World) : (binOp .eql 33 d.val e.val).run Tryd.prog w = .ok (.bool (d.same e)) w := by
  have e0 := Tryd.underlying3
  have e1 := Tryd.underlying2
  unfold Dl.val Dl.same
  rw [run_eql_struct, run_equalIn_agg w 9999 33 _ _ eq33a eq33b, eq33d]
  simp [Op.eqFields, go_sem, e0, e1]
  (repeat' split) <;> simp_all
theorem neq_deal (d e : Dl) (w : World) : (binOp .neq 33 d.val e.val).run Tryd.prog w = .ok (.bool (!d.same e)) w := by
  have e0 := Tryd.underlying3
  have e1 := Tryd.underlying2
  unfold Dl.val Dl.same
  rw [run_neq_struct, run_equalIn_agg w 9999 33 _ _ eq33a eq33b, eq33d]
  simp [Op.eqFields, go_sem, e0, e1]
  (repeat' split) <;> simp_all
section
variable {P : Nat → Prop} {w : World} {gb : Nat} {b : Bk} {v : Value} {mb : Nat} {D : DataW Value}
/-- an instruction in a box -/
def Dl.obj (d : Dl) : Obj := .cells #[.int .i64 d.id, .int .i64 d.a, .int .i64 d.b, .int .i64 d.sc, .int .i64 d.bc, .int .i64 d.s, .int .i64 d.t] 33
theorem boxD (w1 : World) (g : Nat) (d : Dl) (h : w1.heap[g]? = some d.obj) : w1.cell? ⟨g, 0, none⟩ = some (.int .i64 d.id) ∧ w1.cell? ⟨g, 1, none⟩ = some (.int .i64 d.a) ∧ w1.cell? ⟨g, 2, none⟩ = some (.int .i64 d.b) ∧ w1.cell? ⟨g, 3, none⟩ = some (.int .i64 d.sc) ∧ w1.cell? ⟨g, 4, none⟩ = some (.int .i64 d.bc) ∧ w1.cell? ⟨g, 5, none⟩ = some (.int .i64 d.s) ∧ w1.cell? ⟨g, 6, none⟩ = some (.int .i64 d.t) :=
  ⟨obj_cell h rfl, obj_cell h rfl, obj_cell h rfl, obj_cell h rfl, obj_cell h rfl, obj_cell h rfl, obj_cell h rfl⟩
theorem boxD_below {w1 w2 : World} {g : Nat} {d : Dl} (h : w1.heap[g]? = some d.obj) (hb : Below w1.heap.size w1 w2) : w2.heap[g]? = some d.obj := (hb.block g (obj_lt h)).trans h
theorem pb_head (h : PB P w gb b) : w.cell? ⟨gb, 0, none⟩ = some (.int .i64 b.mem) ∧ w.cell? ⟨gb, 1, none⟩ = some (.int .i64 b.cur) ∧ w.cell? ⟨gb, 4, none⟩ = some (.int .i64 (b.many : Nat)) := by
  obtain ⟨v, mb, D, h⟩ := h; exact ⟨obj_cell h.obj rfl, obj_cell h.obj rfl, obj_cell h.obj rfl⟩
theorem below_drew {w w2 : World} (h : Below w.drew.heap.size w.drew w2) : Below w.heap.size w w2 := ⟨h.os, h.tape, h.output, h.size, h.block⟩
set_option maxHeartbeats 2000000 in
set_option maxRecDepth 100000 in
theorem submit_no (h : PBv P w gb b v mb D) (d : Dl) (hm : mayB d b.mem b.cur = false) :
    Calls Tryd.prog 18 #[.pointer (some ⟨gb, 0, none⟩), d.val] w fun e w' => e = .returned (.tuple #[.bool false, .int .i64 1]) ∧ PB P w' gb b ∧ Kp P w w' := by
  have hb1 : Below w.heap.size w (w.alloc d.obj) := (Below.refl _ _).alloc (Nat.le_refl _) _
  have hn := heap_alloc_new w d.obj
  have h1 := h.below hb1
  have hS : ∀ w2, Below (w.alloc d.obj).heap.size (w.alloc d.obj) w2 → (w2.cell? ⟨w.heap.size, 0, none⟩ = some (.int .i64 d.id) ∧ w2.cell? ⟨w.heap.size, 1, none⟩ = some (.int .i64 d.a) ∧ w2.cell? ⟨w.heap.size, 2, none⟩ = some (.int .i64 d.b) ∧ w2.cell? ⟨w.heap.size, 3, none⟩ = some (.int .i64 d.sc) ∧ w2.cell? ⟨w.heap.size, 4, none⟩ = some (.int .i64 d.bc) ∧ w2.cell? ⟨w.heap.size, 5, none⟩ = some (.int .i64 d.s) ∧ w2.cell? ⟨w.heap.size, 6, none⟩ = some (.int .i64 d.t)) ∧ w2.cell? ⟨gb, 0, none⟩ = some (.int .i64 b.mem) ∧ w2.cell? ⟨gb, 1, none⟩ = some (.int .i64 b.cur) := fun w2 hb => ⟨boxD w2 _ d (boxD_below hn hb), (pb_head ⟨v, mb, D, h1.below hb⟩).1, (pb_head ⟨v, mb, D, h1.below hb⟩).2.1⟩
  have hmay := fun w2 => mayBe_any d b.mem b.cur w2
  rw [hm] at hmay
  replace hS := Lib.hid hS
  replace h1 := Lib.hid h1
  replace hb1 := Lib.hid hb1
  replace hn := Lib.hid hn
  replace hm := Lib.hid hm
  replace h := Lib.hid h
  unfold Dl.val at *
  unfold Dl.obj at *
  go_enter Tryd.func18, Tryd.ntmps18
  go_wp2_with fail
  generalize w.alloc _ = w1 at *
  have hS1 := hS.out w1 (Below.refl _ _)
  obtain ⟨⟨k0, k1, k2, k3, k4, k5, k6⟩, k7, k8⟩ := hS1
  go_region_held3 (fun w' => (w'.cell? ⟨w.heap.size, 0, none⟩ = some (.int .i64 d.id) ∧ w'.cell? ⟨w.heap.size, 1, none⟩ = some (.int .i64 d.a) ∧ w'.cell? ⟨w.heap.size, 2, none⟩ = some (.int .i64 d.b) ∧ w'.cell? ⟨w.heap.size, 3, none⟩ = some (.int .i64 d.sc) ∧ w'.cell? ⟨w.heap.size, 4, none⟩ = some (.int .i64 d.bc) ∧ w'.cell? ⟨w.heap.size, 5, none⟩ = some (.int .i64 d.s) ∧ w'.cell? ⟨w.heap.size, 6, none⟩ = some (.int .i64 d.t)) ∧ w'.cell? ⟨gb, 0, none⟩ = some (.int .i64 b.mem) ∧ w'.cell? ⟨gb, 1, none⟩ = some (.int .i64 b.cur)) (first | exact hS.out w1 (Below.refl _ _) | exact hHeld | exact hS.out _ hb2) ((go_at_call 45; (with_reducible refine (hmay _).mono ?_); rintro e w2 ⟨rfl, hb2⟩; replace hb2 := below_drew hb2))
  clear k0 k1 k2 k3 k4 k5 k6 k7 k8
  have hS2 := hS.out w2 hb2
  obtain ⟨⟨k0, k1, k2, k3, k4, k5, k6⟩, k7, k8⟩ := hS2
  have h2 := Lib.hid (h1.out.below hb2)
  go_wp2_with fail
  go_ret2
  exact ⟨rfl, ⟨_, _, _, h2.out⟩, Kp.of_below (hb1.out.trans (hb2.mono hb1.out.size))⟩
set_option maxHeartbeats 2000000 in
set_option maxRecDepth 100000 in
theorem submit_new (h : PBv P w gb b v mb D) (d : Dl) (hm : mayB d b.mem b.cur = true) (hid : In64 d.id) (ha : atL b.l d.id = none) (hlen : b.l.length ≤ 200) (hf : ∀ i, w.heap.size ≤ i → P i) :
    Calls Tryd.prog 18 #[.pointer (some ⟨gb, 0, none⟩), d.val] w fun e w' => e = .returned (.tuple #[.bool false, .int .i64 (if 200 ≤ b.l.length then 4 else 0)]) ∧ PB P w' gb (if 200 ≤ b.l.length then b else { b with l := b.l ++ [⟨d, 1, 0, 0⟩] }) ∧ Kp P w w' := by
  have hb1 : Below w.heap.size w (w.alloc d.obj) := (Below.refl _ _).alloc (Nat.le_refl _) _
  have hn := heap_alloc_new w d.obj
  have h1 := h.below hb1
  have hS : ∀ w2, Below (w.alloc d.obj).heap.size (w.alloc d.obj) w2 → (w2.cell? ⟨w.heap.size, 0, none⟩ = some (.int .i64 d.id) ∧ w2.cell? ⟨w.heap.size, 1, none⟩ = some (.int .i64 d.a) ∧ w2.cell? ⟨w.heap.size, 2, none⟩ = some (.int .i64 d.b) ∧ w2.cell? ⟨w.heap.size, 3, none⟩ = some (.int .i64 d.sc) ∧ w2.cell? ⟨w.heap.size, 4, none⟩ = some (.int .i64 d.bc) ∧ w2.cell? ⟨w.heap.size, 5, none⟩ = some (.int .i64 d.s) ∧ w2.cell? ⟨w.heap.size, 6, none⟩ = some (.int .i64 d.t)) ∧ w2.cell? ⟨gb, 0, none⟩ = some (.int .i64 b.mem) ∧ w2.cell? ⟨gb, 1, none⟩ = some (.int .i64 b.cur) := fun w2 hb => ⟨boxD w2 _ d (boxD_below hn hb), (pb_head ⟨v, mb, D, h1.below hb⟩).1, (pb_head ⟨v, mb, D, h1.below hb⟩).2.1⟩
  have hmay := fun w2 => mayBe_any d b.mem b.cur w2
  rw [hm] at hmay
  have hfind := fun w2 (h2 : PBv P w2 gb b v mb D) => h2.find_none hid ha
  have hlearn := fun w2 (h2 : PBv P w2 gb b v mb D) (hf2 : ∀ i, w2.heap.size ≤ i → P i) => learn_any ⟨v, mb, D, h2⟩ d hid ha hlen hf2
  generalize (if 200 ≤ b.l.length then (4 : Int) else 0) = R at *
  generalize (if 200 ≤ b.l.length then b else { b with l := b.l ++ [⟨d, 1, 0, 0⟩] }) = B2 at *
  replace hfind := Lib.hid hfind
  replace hlearn := Lib.hid hlearn
  replace hf := Lib.hid hf
  replace hS := Lib.hid hS
  replace h1 := Lib.hid h1
  replace hb1 := Lib.hid hb1
  replace hn := Lib.hid hn
  replace hm := Lib.hid hm
  replace h := Lib.hid h
  unfold Dl.val at *
  unfold Dl.obj at *
  go_enter Tryd.func18, Tryd.ntmps18
  go_wp2_with fail
  generalize w.alloc _ = w1 at *
  have hS1 := hS.out w1 (Below.refl _ _)
  obtain ⟨⟨k0, k1, k2, k3, k4, k5, k6⟩, k7, k8⟩ := hS1
  go_region_held3 (fun w' => (w'.cell? ⟨w.heap.size, 0, none⟩ = some (.int .i64 d.id) ∧ w'.cell? ⟨w.heap.size, 1, none⟩ = some (.int .i64 d.a) ∧ w'.cell? ⟨w.heap.size, 2, none⟩ = some (.int .i64 d.b) ∧ w'.cell? ⟨w.heap.size, 3, none⟩ = some (.int .i64 d.sc) ∧ w'.cell? ⟨w.heap.size, 4, none⟩ = some (.int .i64 d.bc) ∧ w'.cell? ⟨w.heap.size, 5, none⟩ = some (.int .i64 d.s) ∧ w'.cell? ⟨w.heap.size, 6, none⟩ = some (.int .i64 d.t)) ∧ w'.cell? ⟨gb, 0, none⟩ = some (.int .i64 b.mem) ∧ w'.cell? ⟨gb, 1, none⟩ = some (.int .i64 b.cur)) (first | exact hS.out w1 (Below.refl _ _) | exact hHeld | exact hS.out _ hb2) ((go_at_call 45; (with_reducible refine (hmay _).mono ?_); rintro e w2 ⟨rfl, hb2⟩; replace hb2 := below_drew hb2))
  clear k0 k1 k2 k3 k4 k5 k6 k7 k8
  have hS2 := hS.out w2 hb2
  obtain ⟨⟨k0, k1, k2, k3, k4, k5, k6⟩, k7, k8⟩ := hS2
  have h2 := Lib.hid (h1.out.below hb2)
  have hf2 : Hid (∀ i, w2.heap.size ≤ i → P i) := Lib.hid fun i hi => hf.out i (by have := hb1.out.size; have := hb2.size; omega)
  go_wp2_with (first | (go_at_call 46; (with_reducible refine (hfind.out _ h2.out).mono ?_); rintro e w3 ⟨rfl, rfl⟩) | (go_at_call 47; (with_reducible refine (hlearn.out _ h2.out hf2.out).mono ?_); rintro e w3 ⟨rfl, hP, hK⟩))
  go_ret2
  exact ⟨rfl, hP, (Kp.of_below (hb1.out.trans (hb2.mono hb1.out.size))).trans hK⟩
set_option maxHeartbeats 2000000 in
set_option maxRecDepth 100000 in
theorem submit_twice (h : PBv P w gb b v mb D) (d : Dl) {i : Nat} (hm : mayB d b.mem b.cur = true) (hid : In64 d.id) (ha : atL b.l d.id = some i) (hi : i < b.l.length) (hlen : b.l.length ≤ 200) (ht : (b.l[i]).st ≠ 1 ∨ (b.l[i]).d.a = d.a) :
    Calls Tryd.prog 18 #[.pointer (some ⟨gb, 0, none⟩), d.val] w fun e w' => e = .returned (.tuple #[.bool false, .int .i64 6]) ∧ PB P w' gb b ∧ Kp P w w' := by
  have hb1 : Below w.heap.size w (w.alloc d.obj) := (Below.refl _ _).alloc (Nat.le_refl _) _
  have hn := heap_alloc_new w d.obj
  have h1 := h.below hb1
  have hS : ∀ w2, Below (w.alloc d.obj).heap.size (w.alloc d.obj) w2 → (w2.cell? ⟨w.heap.size, 0, none⟩ = some (.int .i64 d.id) ∧ w2.cell? ⟨w.heap.size, 1, none⟩ = some (.int .i64 d.a) ∧ w2.cell? ⟨w.heap.size, 2, none⟩ = some (.int .i64 d.b) ∧ w2.cell? ⟨w.heap.size, 3, none⟩ = some (.int .i64 d.sc) ∧ w2.cell? ⟨w.heap.size, 4, none⟩ = some (.int .i64 d.bc) ∧ w2.cell? ⟨w.heap.size, 5, none⟩ = some (.int .i64 d.s) ∧ w2.cell? ⟨w.heap.size, 6, none⟩ = some (.int .i64 d.t)) ∧ w2.cell? ⟨gb, 0, none⟩ = some (.int .i64 b.mem) ∧ w2.cell? ⟨gb, 1, none⟩ = some (.int .i64 b.cur) := fun w2 hb => ⟨boxD w2 _ d (boxD_below hn hb), (pb_head ⟨v, mb, D, h1.below hb⟩).1, (pb_head ⟨v, mb, D, h1.below hb⟩).2.1⟩
  have hmay := fun w2 => mayBe_any d b.mem b.cur w2
  rw [hm] at hmay
  obtain ⟨hlt, -⟩ := atL_some ha
  obtain ⟨g, hg⟩ := h.has hlt
  have hfind := fun w2 (h2 : PBv P w2 gb b v mb D) => h2.find_some hid ha hg (by omega)
  have hent := fun w2 (h2 : PBv P w2 gb b v mb D) => h2.entry hlt hg
  generalize b.l[i] = x at *
  replace hfind := Lib.hid hfind
  replace hent := Lib.hid hent
  replace hS := Lib.hid hS
  replace h1 := Lib.hid h1
  replace hb1 := Lib.hid hb1
  replace hn := Lib.hid hn
  replace hm := Lib.hid hm
  replace h := Lib.hid h
  unfold Dl.val at *
  unfold Dl.obj at *
  go_enter Tryd.func18, Tryd.ntmps18
  go_wp2_with fail
  generalize w.alloc _ = w1 at *
  have hS1 := hS.out w1 (Below.refl _ _)
  obtain ⟨⟨k0, k1, k2, k3, k4, k5, k6⟩, k7, k8⟩ := hS1
  go_region_held3 (fun w' => (w'.cell? ⟨w.heap.size, 0, none⟩ = some (.int .i64 d.id) ∧ w'.cell? ⟨w.heap.size, 1, none⟩ = some (.int .i64 d.a) ∧ w'.cell? ⟨w.heap.size, 2, none⟩ = some (.int .i64 d.b) ∧ w'.cell? ⟨w.heap.size, 3, none⟩ = some (.int .i64 d.sc) ∧ w'.cell? ⟨w.heap.size, 4, none⟩ = some (.int .i64 d.bc) ∧ w'.cell? ⟨w.heap.size, 5, none⟩ = some (.int .i64 d.s) ∧ w'.cell? ⟨w.heap.size, 6, none⟩ = some (.int .i64 d.t)) ∧ w'.cell? ⟨gb, 0, none⟩ = some (.int .i64 b.mem) ∧ w'.cell? ⟨gb, 1, none⟩ = some (.int .i64 b.cur)) (first | exact hS.out w1 (Below.refl _ _) | exact hHeld | exact hS.out _ hb2) ((go_at_call 45; (with_reducible refine (hmay _).mono ?_); rintro e w2 ⟨rfl, hb2⟩; replace hb2 := below_drew hb2))
  clear k0 k1 k2 k3 k4 k5 k6 k7 k8
  have hS2 := hS.out w2 hb2
  obtain ⟨⟨k0, k1, k2, k3, k4, k5, k6⟩, k7, k8⟩ := hS2
  have h2 := Lib.hid (h1.out.below hb2)
  obtain ⟨e0, e1, e2, e3, e4, e5, e6, e7, e8, e9⟩ := hent.out _ h2.out
  rcases hq : (x.st != 1) with _ | _
  · have hq2 : (x.d.a == d.a) = true := by simp at hq; simpa [hq] using ht
    clear ht
    go_upto_region 6 with ((go_at_call 46; (with_reducible refine (hfind.out _ h2.out).mono ?_); rintro e w3 ⟨rfl, rfl⟩))
    go_quiet (fail)
    go_wp2_with fail
    go_ret2
    exact ⟨rfl, ⟨_, _, _, h2.out.kept ((Kp.refl (fun _ => False) _).drewN _) (fun _ _ _ h => h)⟩, (Kp.of_below (hb1.out.trans (hb2.mono hb1.out.size))).drewN _⟩
  · clear ht
    go_upto_region 6 with ((go_at_call 46; (with_reducible refine (hfind.out _ h2.out).mono ?_); rintro e w3 ⟨rfl, rfl⟩))
    go_quiet (fail)
    go_wp2_with fail
    go_ret2
    exact ⟨rfl, ⟨_, _, _, h2.out.kept ((Kp.refl (fun _ => False) _).drewN _) (fun _ _ _ h => h)⟩, (Kp.of_below (hb1.out.trans (hb2.mono hb1.out.size))).drewN _⟩
set_option maxHeartbeats 2000000 in
set_option maxRecDepth 100000 in
theorem submit_unfit (h : PBv P w gb b v mb D) (d : Dl) {i : Nat} (hm : mayB d b.mem b.cur = true) (hid : In64 d.id) (ha : atL b.l d.id = some i) (hi : i < b.l.length) (hlen : b.l.length ≤ 200) (hs1 : (b.l[i]).st = 1) (hs2 : (b.l[i]).d.a ≠ d.a) (hu : d.same (b.l[i]).d.mir = false) :
    Calls Tryd.prog 18 #[.pointer (some ⟨gb, 0, none⟩), d.val] w fun e w' => e = .returned (.tuple #[.bool false, .int .i64 12]) ∧ PB P w' gb b ∧ Kp P w w' := by
  have hb1 : Below w.heap.size w (w.alloc d.obj) := (Below.refl _ _).alloc (Nat.le_refl _) _
  have hn := heap_alloc_new w d.obj
  have h1 := h.below hb1
  have hS : ∀ w2, Below (w.alloc d.obj).heap.size (w.alloc d.obj) w2 → (w2.cell? ⟨w.heap.size, 0, none⟩ = some (.int .i64 d.id) ∧ w2.cell? ⟨w.heap.size, 1, none⟩ = some (.int .i64 d.a) ∧ w2.cell? ⟨w.heap.size, 2, none⟩ = some (.int .i64 d.b) ∧ w2.cell? ⟨w.heap.size, 3, none⟩ = some (.int .i64 d.sc) ∧ w2.cell? ⟨w.heap.size, 4, none⟩ = some (.int .i64 d.bc) ∧ w2.cell? ⟨w.heap.size, 5, none⟩ = some (.int .i64 d.s) ∧ w2.cell? ⟨w.heap.size, 6, none⟩ = some (.int .i64 d.t)) ∧ w2.cell? ⟨gb, 0, none⟩ = some (.int .i64 b.mem) ∧ w2.cell? ⟨gb, 1, none⟩ = some (.int .i64 b.cur) := fun w2 hb => ⟨boxD w2 _ d (boxD_below hn hb), (pb_head ⟨v, mb, D, h1.below hb⟩).1, (pb_head ⟨v, mb, D, h1.below hb⟩).2.1⟩
  have hmay := fun w2 => mayBe_any d b.mem b.cur w2
  rw [hm] at hmay
  obtain ⟨hlt, -⟩ := atL_some ha
  obtain ⟨g, hg⟩ := h.has hlt
  have hfind := fun w2 (h2 : PBv P w2 gb b v mb D) => h2.find_some hid ha hg (by omega)
  have hent := fun w2 (h2 : PBv P w2 gb b v mb D) => h2.entry hlt hg
  have hmir := fun w2 => mirror_any (b.l[i]).d w2
  have hneq := fun w2 => neq_deal d (b.l[i]).d.mir w2
  rw [hu] at hneq
  unfold Dl.val at hmir hneq
  clear hu
  generalize b.l[i] = x at *
  have hent7 : ∀ w', PBv P w' gb b v mb D → (w'.cell? ⟨g, i * 10, none⟩ = some (.int .i64 x.d.id) ∧ w'.cell? ⟨g, i * 10 + 1, none⟩ = some (.int .i64 x.d.a) ∧ w'.cell? ⟨g, i * 10 + 2, none⟩ = some (.int .i64 x.d.b) ∧ w'.cell? ⟨g, i * 10 + 3, none⟩ = some (.int .i64 x.d.sc) ∧ w'.cell? ⟨g, i * 10 + 4, none⟩ = some (.int .i64 x.d.bc) ∧ w'.cell? ⟨g, i * 10 + 5, none⟩ = some (.int .i64 x.d.s) ∧ w'.cell? ⟨g, i * 10 + 6, none⟩ = some (.int .i64 x.d.t)) := fun w2 h2 => by obtain ⟨e0, e1, e2, e3, e4, e5, e6, e7, e8, e9⟩ := hent w2 h2; exact ⟨e0, e1, e2, e3, e4, e5, e6⟩
  replace hfind := Lib.hid hfind
  replace hent := Lib.hid hent
  replace hent7 := Lib.hid hent7
  replace hS := Lib.hid hS
  replace h1 := Lib.hid h1
  replace hb1 := Lib.hid hb1
  replace hn := Lib.hid hn
  replace hm := Lib.hid hm
  replace h := Lib.hid h
  unfold Dl.val at *
  unfold Dl.obj at *
  go_enter Tryd.func18, Tryd.ntmps18
  go_wp2_with fail
  generalize w.alloc _ = w1 at *
  have hS1 := hS.out w1 (Below.refl _ _)
  obtain ⟨⟨k0, k1, k2, k3, k4, k5, k6⟩, k7, k8⟩ := hS1
  go_region_held3 (fun w' => (w'.cell? ⟨w.heap.size, 0, none⟩ = some (.int .i64 d.id) ∧ w'.cell? ⟨w.heap.size, 1, none⟩ = some (.int .i64 d.a) ∧ w'.cell? ⟨w.heap.size, 2, none⟩ = some (.int .i64 d.b) ∧ w'.cell? ⟨w.heap.size, 3, none⟩ = some (.int .i64 d.sc) ∧ w'.cell? ⟨w.heap.size, 4, none⟩ = some (.int .i64 d.bc) ∧ w'.cell? ⟨w.heap.size, 5, none⟩ = some (.int .i64 d.s) ∧ w'.cell? ⟨w.heap.size, 6, none⟩ = some (.int .i64 d.t)) ∧ w'.cell? ⟨gb, 0, none⟩ = some (.int .i64 b.mem) ∧ w'.cell? ⟨gb, 1, none⟩ = some (.int .i64 b.cur)) (first | exact hS.out w1 (Below.refl _ _) | exact hHeld | exact hS.out _ hb2) ((go_at_call 45; (with_reducible refine (hmay _).mono ?_); rintro e w2 ⟨rfl, hb2⟩; replace hb2 := below_drew hb2))
  clear k0 k1 k2 k3 k4 k5 k6 k7 k8
  have hS2 := hS.out w2 hb2
  obtain ⟨⟨k0, k1, k2, k3, k4, k5, k6⟩, k7, k8⟩ := hS2
  have h2 := Lib.hid (h1.out.below hb2)
  have hq : (x.st != 1) = false := by simp [hs1]
  have hq2 : (x.d.a == d.a) = false := by simpa using hs2
  clear hs1 hs2
  obtain ⟨e0, e1, e2, e3, e4, e5, e6, e7, e8, e9⟩ := hent.out _ h2.out
  go_upto_region 6 with ((go_at_call 46; (with_reducible refine (hfind.out _ h2.out).mono ?_); rintro e w3 ⟨rfl, rfl⟩))
  go_quiet (fail)
  go_upto_region 8 with (fail)
  go_region_held3 (fun w' => (w'.cell? ⟨w.heap.size, 0, none⟩ = some (.int .i64 d.id) ∧ w'.cell? ⟨w.heap.size, 1, none⟩ = some (.int .i64 d.a) ∧ w'.cell? ⟨w.heap.size, 2, none⟩ = some (.int .i64 d.b) ∧ w'.cell? ⟨w.heap.size, 3, none⟩ = some (.int .i64 d.sc) ∧ w'.cell? ⟨w.heap.size, 4, none⟩ = some (.int .i64 d.bc) ∧ w'.cell? ⟨w.heap.size, 5, none⟩ = some (.int .i64 d.s) ∧ w'.cell? ⟨w.heap.size, 6, none⟩ = some (.int .i64 d.t)) ∧ (w'.cell? ⟨g, i * 10, none⟩ = some (.int .i64 x.d.id) ∧ w'.cell? ⟨g, i * 10 + 1, none⟩ = some (.int .i64 x.d.a) ∧ w'.cell? ⟨g, i * 10 + 2, none⟩ = some (.int .i64 x.d.b) ∧ w'.cell? ⟨g, i * 10 + 3, none⟩ = some (.int .i64 x.d.sc) ∧ w'.cell? ⟨g, i * 10 + 4, none⟩ = some (.int .i64 x.d.bc) ∧ w'.cell? ⟨g, i * 10 + 5, none⟩ = some (.int .i64 x.d.s) ∧ w'.cell? ⟨g, i * 10 + 6, none⟩ = some (.int .i64 x.d.t))) (first | exact ⟨⟨k0, k1, k2, k3, k4, k5, k6⟩, e0, e1, e2, e3, e4, e5, e6⟩ | exact hHeld | exact ⟨(hS.out _ (hb2.trans (hb5.mono hb2.size))).1, hE4⟩) ((go_at_call 48; (with_reducible refine (hmir _).mono ?_); rintro e w4 ⟨rfl, hb4⟩; have hb5 : Below w2.heap.size w2 w4 := ⟨hb4.os, hb4.tape, hb4.output, hb4.size, hb4.block⟩; clear hb4; have hE4 := hent7.out _ (h2.out.below hb5)))
  go_wp2_with fail
  go_ret2
  exact ⟨rfl, ⟨_, _, _, h2.out.below hb5⟩, Kp.of_below (hb1.out.trans ((hb2.trans (hb5.mono hb2.size)).mono hb1.out.size))⟩
set_option maxHeartbeats 2000000 in
set_option maxRecDepth 100000 in
theorem submit_match (h : PBv P w gb b v mb D) (d : Dl) {i : Nat} (hm : mayB d b.mem b.cur = true) (hid : In64 d.id) (ha : atL b.l d.id = some i) (hi : i < b.l.length) (hlen : b.l.length ≤ 200) (hs1 : (b.l[i]).st = 1) (hs2 : (b.l[i]).d.a ≠ d.a) (hu : d.same (b.l[i]).d.mir = true) (hmany : b.many ≤ 1000) :
    Calls Tryd.prog 18 #[.pointer (some ⟨gb, 0, none⟩), d.val] w fun e w' => e = .returned (.tuple #[.bool true, .int .i64 0]) ∧ PB P w' gb { b with l := b.l.set i { b.l[i] with st := 2, nth := (b.many : Int) + 1 }, many := b.many + 1 } ∧ Kp P w w' := by
  have hb1 : Below w.heap.size w (w.alloc d.obj) := (Below.refl _ _).alloc (Nat.le_refl _) _
  have hn := heap_alloc_new w d.obj
  have h1 := h.below hb1
  have hS : ∀ w2, Below (w.alloc d.obj).heap.size (w.alloc d.obj) w2 → (w2.cell? ⟨w.heap.size, 0, none⟩ = some (.int .i64 d.id) ∧ w2.cell? ⟨w.heap.size, 1, none⟩ = some (.int .i64 d.a) ∧ w2.cell? ⟨w.heap.size, 2, none⟩ = some (.int .i64 d.b) ∧ w2.cell? ⟨w.heap.size, 3, none⟩ = some (.int .i64 d.sc) ∧ w2.cell? ⟨w.heap.size, 4, none⟩ = some (.int .i64 d.bc) ∧ w2.cell? ⟨w.heap.size, 5, none⟩ = some (.int .i64 d.s) ∧ w2.cell? ⟨w.heap.size, 6, none⟩ = some (.int .i64 d.t)) ∧ w2.cell? ⟨gb, 0, none⟩ = some (.int .i64 b.mem) ∧ w2.cell? ⟨gb, 1, none⟩ = some (.int .i64 b.cur) := fun w2 hb => ⟨boxD w2 _ d (boxD_below hn hb), (pb_head ⟨v, mb, D, h1.below hb⟩).1, (pb_head ⟨v, mb, D, h1.below hb⟩).2.1⟩
  have hmay := fun w2 => mayBe_any d b.mem b.cur w2
  rw [hm] at hmay
  obtain ⟨hlt, -⟩ := atL_some ha
  obtain ⟨g, hg⟩ := h.has hlt
  have hfind := fun w2 (h2 : PBv P w2 gb b v mb D) => h2.find_some hid ha hg (by omega)
  have hent := fun w2 (h2 : PBv P w2 gb b v mb D) => h2.entry hlt hg
  have hmir := fun w2 => mirror_any (b.l[i]).d w2
  have hneq := fun w2 => neq_deal d (b.l[i]).d.mir w2
  rw [hu] at hneq
  unfold Dl.val at hmir hneq
  clear hu
  have hgl := (World.ownsRow.lt h.row g hg).2
  have hgbl := h.lt
  have hput : ∀ w2, PBv P w2 gb b v mb D → Hid (PB P (((w2.setCell ⟨gb, 4, none⟩ (.int .i64 ((b.many : Int) + 1))).setCell ⟨g, i * 10 + 7, none⟩ (.int .i64 2)).setCell ⟨g, i * 10 + 9, none⟩ (.int .i64 ((b.many : Int) + 1))) gb { b with l := b.l.set i { b.l[i] with st := 2, nth := (b.many : Int) + 1 }, many := b.many + 1 } ∧ Kp P w2 (((w2.setCell ⟨gb, 4, none⟩ (.int .i64 ((b.many : Int) + 1))).setCell ⟨g, i * 10 + 7, none⟩ (.int .i64 2)).setCell ⟨g, i * 10 + 9, none⟩ (.int .i64 ((b.many : Int) + 1))) ∧ w2.cell? ⟨gb, 4, none⟩ = some (.int .i64 (b.many : Nat)) ∧ w2.frozen? ⟨gb, 4, none⟩ = false ∧ w2.frozen? ⟨g, i * 10 + 7, none⟩ = false ∧ w2.frozen? ⟨g, i * 10 + 9, none⟩ = false ∧ w2.cell? ⟨g, i * 10 + 7, none⟩ = some (.int .i64 (b.l[i]).st) ∧ w2.cell? ⟨g, i * 10 + 9, none⟩ = some (.int .i64 (b.l[i]).nth)) := fun w2 h2 => by
    have a1 := h2.more (b.many + 1)
    have a2 := a1.put hg hi 7 (.int .i64 2) { b.l[i] with st := 2 } (by omega) rfl rfl
    have a3 := a2.put hg (i := i) (by simpa using hi) 9 (.int .i64 ((b.many : Int) + 1)) { b.l[i] with st := 2, nth := (b.many : Int) + 1 } (by omega) (by simp [En.cs]) (by simp)
    simp only [List.set_set] at a3
    have ecast : (((b.many + 1 : Nat) : Nat) : Int) = (b.many : Int) + 1 := by omega
    rw [ecast] at a3
    exact Lib.hid ⟨⟨_, _, _, a3⟩, (((Kp.refl P w2).setCell (.inl h2.pg) _).setCell (.inl (h2.pv g hg)) _).setCell (.inl (h2.pv g hg)) _, obj_cell h2.obj rfl, obj_free h2.obj 4, orow_free h2.row hg _, orow_free h2.row hg _, h2.cells hg hi 7 _ (by omega) rfl, h2.cells hg hi 9 _ (by omega) rfl⟩
  have hne : gb ≠ g := fun e => h.nv (by rw [e]; exact hg)
  have hz1 : (0 : Int) ≤ (b.many : Int) := by omega
  have hz2 : (b.many : Int) ≤ 1000 := by omega
  generalize b.l[i] = x at *
  have hent7 : ∀ w', PBv P w' gb b v mb D → (w'.cell? ⟨g, i * 10, none⟩ = some (.int .i64 x.d.id) ∧ w'.cell? ⟨g, i * 10 + 1, none⟩ = some (.int .i64 x.d.a) ∧ w'.cell? ⟨g, i * 10 + 2, none⟩ = some (.int .i64 x.d.b) ∧ w'.cell? ⟨g, i * 10 + 3, none⟩ = some (.int .i64 x.d.sc) ∧ w'.cell? ⟨g, i * 10 + 4, none⟩ = some (.int .i64 x.d.bc) ∧ w'.cell? ⟨g, i * 10 + 5, none⟩ = some (.int .i64 x.d.s) ∧ w'.cell? ⟨g, i * 10 + 6, none⟩ = some (.int .i64 x.d.t)) := fun w2 h2 => by obtain ⟨e0, e1, e2, e3, e4, e5, e6, e7, e8, e9⟩ := hent w2 h2; exact ⟨e0, e1, e2, e3, e4, e5, e6⟩
  replace hfind := Lib.hid hfind
  replace hent := Lib.hid hent
  replace hent7 := Lib.hid hent7
  replace hput := Lib.hid hput
  replace hS := Lib.hid hS
  replace h1 := Lib.hid h1
  replace hb1 := Lib.hid hb1
  replace hn := Lib.hid hn
  replace hm := Lib.hid hm
  replace h := Lib.hid h
  unfold Dl.val at *
  unfold Dl.obj at *
  go_enter Tryd.func18, Tryd.ntmps18
  go_wp2_with fail
  generalize w.alloc _ = w1 at *
  have hS1 := hS.out w1 (Below.refl _ _)
  obtain ⟨⟨k0, k1, k2, k3, k4, k5, k6⟩, k7, k8⟩ := hS1
  go_region_held3 (fun w' => (w'.cell? ⟨w.heap.size, 0, none⟩ = some (.int .i64 d.id) ∧ w'.cell? ⟨w.heap.size, 1, none⟩ = some (.int .i64 d.a) ∧ w'.cell? ⟨w.heap.size, 2, none⟩ = some (.int .i64 d.b) ∧ w'.cell? ⟨w.heap.size, 3, none⟩ = some (.int .i64 d.sc) ∧ w'.cell? ⟨w.heap.size, 4, none⟩ = some (.int .i64 d.bc) ∧ w'.cell? ⟨w.heap.size, 5, none⟩ = some (.int .i64 d.s) ∧ w'.cell? ⟨w.heap.size, 6, none⟩ = some (.int .i64 d.t)) ∧ w'.cell? ⟨gb, 0, none⟩ = some (.int .i64 b.mem) ∧ w'.cell? ⟨gb, 1, none⟩ = some (.int .i64 b.cur)) (first | exact hS.out w1 (Below.refl _ _) | exact hHeld | exact hS.out _ hb2) ((go_at_call 45; (with_reducible refine (hmay _).mono ?_); rintro e w2 ⟨rfl, hb2⟩; replace hb2 := below_drew hb2))
  clear k0 k1 k2 k3 k4 k5 k6 k7 k8
  have hS2 := hS.out w2 hb2
  obtain ⟨⟨k0, k1, k2, k3, k4, k5, k6⟩, k7, k8⟩ := hS2
  have h2 := Lib.hid (h1.out.below hb2)
  have hq : (x.st != 1) = false := by simp [hs1]
  have hq2 : (x.d.a == d.a) = false := by simpa using hs2
  clear hs1 hs2
  obtain ⟨e0, e1, e2, e3, e4, e5, e6, e7, e8, e9⟩ := hent.out _ h2.out
  go_upto_region 6 with ((go_at_call 46; (with_reducible refine (hfind.out _ h2.out).mono ?_); rintro e w3 ⟨rfl, rfl⟩))
  go_quiet (fail)
  go_upto_region 8 with (fail)
  go_region_held3 (fun w' => (w'.cell? ⟨w.heap.size, 0, none⟩ = some (.int .i64 d.id) ∧ w'.cell? ⟨w.heap.size, 1, none⟩ = some (.int .i64 d.a) ∧ w'.cell? ⟨w.heap.size, 2, none⟩ = some (.int .i64 d.b) ∧ w'.cell? ⟨w.heap.size, 3, none⟩ = some (.int .i64 d.sc) ∧ w'.cell? ⟨w.heap.size, 4, none⟩ = some (.int .i64 d.bc) ∧ w'.cell? ⟨w.heap.size, 5, none⟩ = some (.int .i64 d.s) ∧ w'.cell? ⟨w.heap.size, 6, none⟩ = some (.int .i64 d.t)) ∧ (w'.cell? ⟨g, i * 10, none⟩ = some (.int .i64 x.d.id) ∧ w'.cell? ⟨g, i * 10 + 1, none⟩ = some (.int .i64 x.d.a) ∧ w'.cell? ⟨g, i * 10 + 2, none⟩ = some (.int .i64 x.d.b) ∧ w'.cell? ⟨g, i * 10 + 3, none⟩ = some (.int .i64 x.d.sc) ∧ w'.cell? ⟨g, i * 10 + 4, none⟩ = some (.int .i64 x.d.bc) ∧ w'.cell? ⟨g, i * 10 + 5, none⟩ = some (.int .i64 x.d.s) ∧ w'.cell? ⟨g, i * 10 + 6, none⟩ = some (.int .i64 x.d.t))) (first | exact ⟨⟨k0, k1, k2, k3, k4, k5, k6⟩, e0, e1, e2, e3, e4, e5, e6⟩ | exact hHeld | exact ⟨(hS.out _ (hb2.trans (hb5.mono hb2.size))).1, hE4⟩) ((go_at_call 48; (with_reducible refine (hmir _).mono ?_); rintro e w4 ⟨rfl, hb4⟩; have hb5 : Below w2.heap.size w2 w4 := ⟨hb4.os, hb4.tape, hb4.output, hb4.size, hb4.block⟩; clear hb4; have hE4 := hent7.out _ (h2.out.below hb5)))
  have hgl4 : g < w4.heap.size := by have := hb1.out.size; have := hb2.size; have := hb5.size; omega
  have hgbl4 : gb < w4.heap.size := by have := hb1.out.size; have := hb2.size; have := hb5.size; omega
  have hH := hput.out _ (h2.out.below hb5)
  obtain ⟨hfin, hkp, m4, f4, f7, f9, g7, g9⟩ := hH.out
  clear hH
  replace hfin := Lib.hid hfin
  replace hkp := Lib.hid hkp
  go_wp2_with fail
  go_ret2
  exact ⟨rfl, hfin.out, (Kp.of_below (hb1.out.trans ((hb2.trans (hb5.mono hb2.size)).mono hb1.out.size))).trans hkp.out⟩
theorem submit_any (h : PB P w gb b) (d : Dl) (hid : In64 d.id) (hlen : b.l.length ≤ 200) (hmany : b.many ≤ 1000) (hf : ∀ i, w.heap.size ≤ i → P i) :
    Calls Tryd.prog 18 #[.pointer (some ⟨gb, 0, none⟩), d.val] w fun e w' => e = .returned (.tuple #[.bool (b.sub d).1.1, .int .i64 (b.sub d).1.2]) ∧ PB P w' gb (b.sub d).2 ∧ Kp P w w' := by
  obtain ⟨v, mb, D, h⟩ := h
  rcases hm : mayB d b.mem b.cur with _ | _
  · have e : b.sub d = ((false, 1), b) := by unfold Bk.sub; rw [if_pos hm]
    rw [e]; exact submit_no h d hm
  · rcases ha : atL b.l d.id with _ | i
    · have c := submit_new h d hm hid ha hlen hf
      by_cases h2 : 200 ≤ b.l.length
      · have e : b.sub d = ((false, 4), b) := by unfold Bk.sub; rw [if_neg (by rw [hm]; simp), ha]; dsimp only; rw [if_pos h2]
        rw [if_pos h2, if_pos h2] at c
        rw [e]; exact c
      · have e : b.sub d = ((false, 0), { b with l := b.l ++ [⟨d, 1, 0, 0⟩] }) := by unfold Bk.sub; rw [if_neg (by rw [hm]; simp), ha]; dsimp only; rw [if_neg h2]
        rw [if_neg h2, if_neg h2] at c
        rw [e]; exact c
    · obtain ⟨hi, -⟩ := atL_some ha
      have e0 : b.sub d = if (b.l[i]).st ≠ 1 ∨ (b.l[i]).d.a = d.a then ((false, 6), b) else if d ≠ (b.l[i]).d.mir then ((false, 12), b) else ((true, 0), { b with l := b.l.set i { b.l[i] with st := 2, nth := (b.many : Int) + 1 }, many := b.many + 1 }) := by
        unfold Bk.sub; rw [if_neg (by rw [hm]; simp), ha]; dsimp only; rw [getD_at hi]
      by_cases ht : (b.l[i]).st ≠ 1 ∨ (b.l[i]).d.a = d.a
      · rw [if_pos ht] at e0
        rw [e0]; exact submit_twice h d hm hid ha hi hlen ht
      · rw [if_neg ht] at e0
        have hs1 : (b.l[i]).st = 1 := by omega
        have hs2 : (b.l[i]).d.a ≠ d.a := by omega
        rcases hu : d.same (b.l[i]).d.mir with _ | _
        · rw [if_pos (fun e => by rw [Dl.same_iff.2 e] at hu; cases hu)] at e0
          rw [e0]; exact submit_unfit h d hm hid ha hi hlen hs1 hs2 hu
        · rw [if_neg (fun e => e (Dl.same_iff.1 hu))] at e0
          rw [e0]; exact submit_match h d hm hid ha hi hlen hs1 hs2 hu hmany
end
end Go.Proofs.YtflbggehgjllcaaDoor
