/- The contract of Submit.
  Commands and replies as bytes, plainly: laid, taken, there and back. No Go text.
  The contracts of New, lay, take.
  Rows of ints; the contract of Same; what Remove does, entry by entry.
  The contract of Remove. -/
import Derived.Test.YthocnlalahknjaaGreatQDa
import Derived.Lib.Hide
import Derived.Lib.UnsafeStr
import Derived.Carry
namespace Go.Proofs.YthocnlalahknjaaGreat.Dd
open Go.RowKit Go.Maps
set_option linter.unusedVariables false
theorem eq33a : Tryz.prog.underlying 60 = some (.struct (Tryz.prog.fieldsOf 60)) := by kernel_rfl
theorem eq33b : Tryz.prog.stoodInHeld 60 = false := by kernel_rfl
theorem eq33d : Tryz.prog.fieldsOf 60 = #[⟨"Id", 3, 0, false, "", "", 0⟩, ⟨"A", 3, 1, false, "", "", 8⟩, ⟨"B", 3, 2, false, "", "", 16⟩, ⟨"SellCur", 3, 3, false, "", "", 24⟩, ⟨"BuyCur", 3, 4, false, "", "", 32⟩, ⟨"Sell", 2, 5, false, "", "", 40⟩, ⟨"Buy", 2, 6, false, "", "", 48⟩] := by kernel_rfl
def Dl.same (d e : Dl) : Bool := d.id == e.id && (d.a == e.a && (d.b == e.b && (d.sc == e.sc && (d.bc == e.bc && (d.s == e.s && d.t == e.t)))))
theorem Dl.same_iff {d e : Dl} : d.same e = true ↔ d = e := by
  obtain ⟨a1, a2, a3, a4, a5, a6, a7⟩ := d
  obtain ⟨b1, b2, b3, b4, b5, b6, b7⟩ := e
  unfold Dl.same
  simp
theorem eq_deal (d e : Dl) (w : World) : (binOp .eql 60 d.val e.val).run Tryz.prog w = .ok (.bool (d.same e)) w := by
  have e0 := Tryz.underlying3
  have e1 := Tryz.underlying2
  unfold Dl.val Dl.same
  rw [run_eql_struct, run_equalIn_agg w 9999 60 _ _ eq33a eq33b, eq33d]
  simp [Op.eqFields, go_sem, e0, e1]
  (repeat' split) <;> simp_all
theorem neq_deal (d e : Dl) (w : World) : (binOp .neq 60 d.val e.val).run Tryz.prog w = .ok (.bool (!d.same e)) w := by
  have e0 := Tryz.underlying3
  have e1 := Tryz.underlying2
  unfold Dl.val Dl.same
  rw [run_neq_struct, run_equalIn_agg w 9999 60 _ _ eq33a eq33b, eq33d]
  simp [Op.eqFields, go_sem, e0, e1]
  (repeat' split) <;> simp_all
section
variable {P : Nat → Prop} {w : World} {gb : Nat} {b : Bk} {v : Value} {mb : Nat} {D : DataW Value}
/-- an instruction in a box -/
def Dl.obj (d : Dl) : Obj := .cells #[.int .i64 d.id, .int .i64 d.a, .int .i64 d.b, .int .i64 d.sc, .int .i64 d.bc, .int .i64 d.s, .int .i64 d.t] 60
theorem boxD (w1 : World) (g : Nat) (d : Dl) (h : w1.heap[g]? = some d.obj) : w1.cell? ⟨g, 0, none⟩ = some (.int .i64 d.id) ∧ w1.cell? ⟨g, 1, none⟩ = some (.int .i64 d.a) ∧ w1.cell? ⟨g, 2, none⟩ = some (.int .i64 d.b) ∧ w1.cell? ⟨g, 3, none⟩ = some (.int .i64 d.sc) ∧ w1.cell? ⟨g, 4, none⟩ = some (.int .i64 d.bc) ∧ w1.cell? ⟨g, 5, none⟩ = some (.int .i64 d.s) ∧ w1.cell? ⟨g, 6, none⟩ = some (.int .i64 d.t) :=
  ⟨obj_cell h rfl, obj_cell h rfl, obj_cell h rfl, obj_cell h rfl, obj_cell h rfl, obj_cell h rfl, obj_cell h rfl⟩
theorem boxD_below {w1 w2 : World} {g : Nat} {d : Dl} (h : w1.heap[g]? = some d.obj) (hb : Below w1.heap.size w1 w2) : w2.heap[g]? = some d.obj := (hb.block g (obj_lt h)).trans h
theorem pb_head (h : PB P w gb b) : w.cell? ⟨gb, 0, none⟩ = some (.int .i64 b.mem) ∧ w.cell? ⟨gb, 1, none⟩ = some (.int .i64 b.cur) ∧ w.cell? ⟨gb, 4, none⟩ = some (.int .i64 (b.many : Nat)) := by
  obtain ⟨v, mb, D, h⟩ := h; exact ⟨obj_cell h.obj rfl, obj_cell h.obj rfl, obj_cell h.obj rfl⟩
theorem below_drew {w w2 : World} (h : Below w.drew.heap.size w.drew w2) : Below w.heap.size w w2 := ⟨h.os, h.tape, h.output, h.size, h.block⟩
set_option maxHeartbeats 2000000 in
set_option maxRecDepth 100000 in
theorem submit_no (h : PBv P w gb b v mb D) (d : Dl) (hm : mayB d b.mem b.cur = false) :
    Calls Tryz.prog 21 #[.pointer (some ⟨gb, 0, none⟩), d.val] w fun e w' => e = .returned (.tuple #[.bool false, .int .i64 1]) ∧ PB P w' gb b ∧ Kp P w w' := by
  have hb1 : Below w.heap.size w (w.alloc d.obj) := (Below.refl _ _).alloc (Nat.le_refl _) _
  have hn := heap_alloc_new w d.obj
  have h1 := h.below hb1
  have hS : ∀ w2, Below (w.alloc d.obj).heap.size (w.alloc d.obj) w2 → (w2.cell? ⟨w.heap.size, 0, none⟩ = some (.int .i64 d.id) ∧ w2.cell? ⟨w.heap.size, 1, none⟩ = some (.int .i64 d.a) ∧ w2.cell? ⟨w.heap.size, 2, none⟩ = some (.int .i64 d.b) ∧ w2.cell? ⟨w.heap.size, 3, none⟩ = some (.int .i64 d.sc) ∧ w2.cell? ⟨w.heap.size, 4, none⟩ = some (.int .i64 d.bc) ∧ w2.cell? ⟨w.heap.size, 5, none⟩ = some (.int .i64 d.s) ∧ w2.cell? ⟨w.heap.size, 6, none⟩ = some (.int .i64 d.t)) ∧ w2.cell? ⟨gb, 0, none⟩ = some (.int .i64 b.mem) ∧ w2.cell? ⟨gb, 1, none⟩ = some (.int .i64 b.cur) := fun w2 hb => ⟨boxD w2 _ d (boxD_below hn hb), (pb_head ⟨v, mb, D, h1.below hb⟩).1, (pb_head ⟨v, mb, D, h1.below hb⟩).2.1⟩
  have hmay := fun w2 => mayBe_any d b.mem b.cur w2
  rw [hm] at hmay
  replace hS := Lib.hid hS
  replace h1 := Lib.hid h1
  replace hb1 := Lib.hid hb1
  replace hn := Lib.hid hn
  replace hm := Lib.hid hm
  replace h := Lib.hid h
  unfold Dl.val at *
  unfold Dl.obj at *
  go_enter Tryz.func21, Tryz.ntmps21
  go_wp2_with fail
  generalize w.alloc _ = w1 at *
  have hS1 := hS.out w1 (Below.refl _ _)
  obtain ⟨⟨k0, k1, k2, k3, k4, k5, k6⟩, k7, k8⟩ := hS1
  go_region_held3 (fun w' => (w'.cell? ⟨w.heap.size, 0, none⟩ = some (.int .i64 d.id) ∧ w'.cell? ⟨w.heap.size, 1, none⟩ = some (.int .i64 d.a) ∧ w'.cell? ⟨w.heap.size, 2, none⟩ = some (.int .i64 d.b) ∧ w'.cell? ⟨w.heap.size, 3, none⟩ = some (.int .i64 d.sc) ∧ w'.cell? ⟨w.heap.size, 4, none⟩ = some (.int .i64 d.bc) ∧ w'.cell? ⟨w.heap.size, 5, none⟩ = some (.int .i64 d.s) ∧ w'.cell? ⟨w.heap.size, 6, none⟩ = some (.int .i64 d.t)) ∧ w'.cell? ⟨gb, 0, none⟩ = some (.int .i64 b.mem) ∧ w'.cell? ⟨gb, 1, none⟩ = some (.int .i64 b.cur)) (first | exact hS.out w1 (Below.refl _ _) | exact hHeld | exact hS.out _ hb2) ((go_at_call 46; (with_reducible refine (hmay _).mono ?_); rintro e w2 ⟨rfl, hb2⟩; replace hb2 := below_drew hb2))
  clear k0 k1 k2 k3 k4 k5 k6 k7 k8
  have hS2 := hS.out w2 hb2
  obtain ⟨⟨k0, k1, k2, k3, k4, k5, k6⟩, k7, k8⟩ := hS2
  have h2 := Lib.hid (h1.out.below hb2)
  go_wp2_with fail
  go_ret2
  exact ⟨rfl, ⟨_, _, _, h2.out⟩, Kp.of_below (hb1.out.trans (hb2.mono hb1.out.size))⟩
set_option maxHeartbeats 2000000 in
set_option maxRecDepth 100000 in
theorem submit_new (h : PBv P w gb b v mb D) (d : Dl) (hm : mayB d b.mem b.cur = true) (hid : In64 d.id) (ha : atL b.l d.id = none) (hlen : b.l.length ≤ 200) (hf : ∀ i, w.heap.size ≤ i → P i) :
    Calls Tryz.prog 21 #[.pointer (some ⟨gb, 0, none⟩), d.val] w fun e w' => e = .returned (.tuple #[.bool false, .int .i64 (if 200 ≤ b.l.length then 4 else 0)]) ∧ PB P w' gb (if 200 ≤ b.l.length then b else { b with l := b.l ++ [⟨d, 1, 0, 0⟩] }) ∧ Kp P w w' := by
  have hb1 : Below w.heap.size w (w.alloc d.obj) := (Below.refl _ _).alloc (Nat.le_refl _) _
  have hn := heap_alloc_new w d.obj
  have h1 := h.below hb1
  have hS : ∀ w2, Below (w.alloc d.obj).heap.size (w.alloc d.obj) w2 → (w2.cell? ⟨w.heap.size, 0, none⟩ = some (.int .i64 d.id) ∧ w2.cell? ⟨w.heap.size, 1, none⟩ = some (.int .i64 d.a) ∧ w2.cell? ⟨w.heap.size, 2, none⟩ = some (.int .i64 d.b) ∧ w2.cell? ⟨w.heap.size, 3, none⟩ = some (.int .i64 d.sc) ∧ w2.cell? ⟨w.heap.size, 4, none⟩ = some (.int .i64 d.bc) ∧ w2.cell? ⟨w.heap.size, 5, none⟩ = some (.int .i64 d.s) ∧ w2.cell? ⟨w.heap.size, 6, none⟩ = some (.int .i64 d.t)) ∧ w2.cell? ⟨gb, 0, none⟩ = some (.int .i64 b.mem) ∧ w2.cell? ⟨gb, 1, none⟩ = some (.int .i64 b.cur) := fun w2 hb => ⟨boxD w2 _ d (boxD_below hn hb), (pb_head ⟨v, mb, D, h1.below hb⟩).1, (pb_head ⟨v, mb, D, h1.below hb⟩).2.1⟩
  have hmay := fun w2 => mayBe_any d b.mem b.cur w2
  rw [hm] at hmay
  have hfind := fun w2 (h2 : PBv P w2 gb b v mb D) => h2.find_none hid ha
  have hlearn := fun w2 (h2 : PBv P w2 gb b v mb D) (hf2 : ∀ i, w2.heap.size ≤ i → P i) => learn_any ⟨v, mb, D, h2⟩ d hid ha hlen hf2
  generalize (if 200 ≤ b.l.length then (4 : Int) else 0) = R at *
  generalize (if 200 ≤ b.l.length then b else { b with l := b.l ++ [⟨d, 1, 0, 0⟩] }) = B2 at *
  replace hfind := Lib.hid hfind
  replace hlearn := Lib.hid hlearn
  replace hf := Lib.hid hf
  replace hS := Lib.hid hS
  replace h1 := Lib.hid h1
  replace hb1 := Lib.hid hb1
  replace hn := Lib.hid hn
  replace hm := Lib.hid hm
  replace h := Lib.hid h
  unfold Dl.val at *
  unfold Dl.obj at *
  go_enter Tryz.func21, Tryz.ntmps21
  go_wp2_with fail
  generalize w.alloc _ = w1 at *
  have hS1 := hS.out w1 (Below.refl _ _)
  obtain ⟨⟨k0, k1, k2, k3, k4, k5, k6⟩, k7, k8⟩ := hS1
  go_region_held3 (fun w' => (w'.cell? ⟨w.heap.size, 0, none⟩ = some (.int .i64 d.id) ∧ w'.cell? ⟨w.heap.size, 1, none⟩ = some (.int .i64 d.a) ∧ w'.cell? ⟨w.heap.size, 2, none⟩ = some (.int .i64 d.b) ∧ w'.cell? ⟨w.heap.size, 3, none⟩ = some (.int .i64 d.sc) ∧ w'.cell? ⟨w.heap.size, 4, none⟩ = some (.int .i64 d.bc) ∧ w'.cell? ⟨w.heap.size, 5, none⟩ = some (.int .i64 d.s) ∧ w'.cell? ⟨w.heap.size, 6, none⟩ = some (.int .i64 d.t)) ∧ w'.cell? ⟨gb, 0, none⟩ = some (.int .i64 b.mem) ∧ w'.cell? ⟨gb, 1, none⟩ = some (.int .i64 b.cur)) (first | exact hS.out w1 (Below.refl _ _) | exact hHeld | exact hS.out _ hb2) ((go_at_call 46; (with_reducible refine (hmay _).mono ?_); rintro e w2 ⟨rfl, hb2⟩; replace hb2 := below_drew hb2))
  clear k0 k1 k2 k3 k4 k5 k6 k7 k8
  have hS2 := hS.out w2 hb2
  obtain ⟨⟨k0, k1, k2, k3, k4, k5, k6⟩, k7, k8⟩ := hS2
  have h2 := Lib.hid (h1.out.below hb2)
  have hf2 : Hid (∀ i, w2.heap.size ≤ i → P i) := Lib.hid fun i hi => hf.out i (by have := hb1.out.size; have := hb2.size; omega)
  go_wp2_with (first | (go_at_call 47; (with_reducible refine (hfind.out _ h2.out).mono ?_); rintro e w3 ⟨rfl, rfl⟩) | (go_at_call 48; (with_reducible refine (hlearn.out _ h2.out hf2.out).mono ?_); rintro e w3 ⟨rfl, hP, hK⟩))
  go_ret2
  exact ⟨rfl, hP, (Kp.of_below (hb1.out.trans (hb2.mono hb1.out.size))).trans hK⟩
set_option maxHeartbeats 2000000 in
set_option maxRecDepth 100000 in
theorem submit_twice (h : PBv P w gb b v mb D) (d : Dl) {i : Nat} (hm : mayB d b.mem b.cur = true) (hid : In64 d.id) (ha : atL b.l d.id = some i) (hi : i < b.l.length) (hlen : b.l.length ≤ 200) (ht : (b.l[i]).st ≠ 1 ∨ (b.l[i]).d.a = d.a) :
    Calls Tryz.prog 21 #[.pointer (some ⟨gb, 0, none⟩), d.val] w fun e w' => e = .returned (.tuple #[.bool false, .int .i64 6]) ∧ PB P w' gb b ∧ Kp P w w' := by
  have hb1 : Below w.heap.size w (w.alloc d.obj) := (Below.refl _ _).alloc (Nat.le_refl _) _
  have hn := heap_alloc_new w d.obj
  have h1 := h.below hb1
  have hS : ∀ w2, Below (w.alloc d.obj).heap.size (w.alloc d.obj) w2 → (w2.cell? ⟨w.heap.size, 0, none⟩ = some (.int .i64 d.id) ∧ w2.cell? ⟨w.heap.size, 1, none⟩ = some (.int .i64 d.a) ∧ w2.cell? ⟨w.heap.size, 2, none⟩ = some (.int .i64 d.b) ∧ w2.cell? ⟨w.heap.size, 3, none⟩ = some (.int .i64 d.sc) ∧ w2.cell? ⟨w.heap.size, 4, none⟩ = some (.int .i64 d.bc) ∧ w2.cell? ⟨w.heap.size, 5, none⟩ = some (.int .i64 d.s) ∧ w2.cell? ⟨w.heap.size, 6, none⟩ = some (.int .i64 d.t)) ∧ w2.cell? ⟨gb, 0, none⟩ = some (.int .i64 b.mem) ∧ w2.cell? ⟨gb, 1, none⟩ = some (.int .i64 b.cur) := fun w2 hb => ⟨boxD w2 _ d (boxD_below hn hb), (pb_head ⟨v, mb, D, h1.below hb⟩).1, (pb_head ⟨v, mb, D, h1.below hb⟩).2.1⟩
  have hmay := fun w2 => mayBe_any d b.mem b.cur w2
  rw [hm] at hmay
  obtain ⟨hlt, -⟩ := atL_some ha
  obtain ⟨g, hg⟩ := h.has hlt
  have hfind := fun w2 (h2 : PBv P w2 gb b v mb D) => h2.find_some hid ha hg (by omega)
  have hent := fun w2 (h2 : PBv P w2 gb b v mb D) => h2.entry hlt hg
  generalize b.l[i] = x at *
  replace hfind := Lib.hid hfind
  replace hent := Lib.hid hent
  replace hS := Lib.hid hS
  replace h1 := Lib.hid h1
  replace hb1 := Lib.hid hb1
  replace hn := Lib.hid hn
  replace hm := Lib.hid hm
  replace h := Lib.hid h
  unfold Dl.val at *
  unfold Dl.obj at *
  go_enter Tryz.func21, Tryz.ntmps21
  go_wp2_with fail
  generalize w.alloc _ = w1 at *
  have hS1 := hS.out w1 (Below.refl _ _)
  obtain ⟨⟨k0, k1, k2, k3, k4, k5, k6⟩, k7, k8⟩ := hS1
  go_region_held3 (fun w' => (w'.cell? ⟨w.heap.size, 0, none⟩ = some (.int .i64 d.id) ∧ w'.cell? ⟨w.heap.size, 1, none⟩ = some (.int .i64 d.a) ∧ w'.cell? ⟨w.heap.size, 2, none⟩ = some (.int .i64 d.b) ∧ w'.cell? ⟨w.heap.size, 3, none⟩ = some (.int .i64 d.sc) ∧ w'.cell? ⟨w.heap.size, 4, none⟩ = some (.int .i64 d.bc) ∧ w'.cell? ⟨w.heap.size, 5, none⟩ = some (.int .i64 d.s) ∧ w'.cell? ⟨w.heap.size, 6, none⟩ = some (.int .i64 d.t)) ∧ w'.cell? ⟨gb, 0, none⟩ = some (.int .i64 b.mem) ∧ w'.cell? ⟨gb, 1, none⟩ = some (.int .i64 b.cur)) (first | exact hS.out w1 (Below.refl _ _) | exact hHeld | exact hS.out _ hb2) ((go_at_call 46; (with_reducible refine (hmay _).mono ?_); rintro e w2 ⟨rfl, hb2⟩; replace hb2 := below_drew hb2))
  clear k0 k1 k2 k3 k4 k5 k6 k7 k8
  have hS2 := hS.out w2 hb2
  obtain ⟨⟨k0, k1, k2, k3, k4, k5, k6⟩, k7, k8⟩ := hS2
  have h2 := Lib.hid (h1.out.below hb2)
  obtain ⟨e0, e1, e2, e3, e4, e5, e6, e7, e8, e9⟩ := hent.out _ h2.out
  rcases hq : (x.st != 1) with _ | _
  · have hq2 : (x.d.a == d.a) = true := by simp at hq; simpa [hq] using ht
    clear ht
    go_upto_region 6 with ((go_at_call 47; (with_reducible refine (hfind.out _ h2.out).mono ?_); rintro e w3 ⟨rfl, rfl⟩))
    go_quiet (fail)
    go_wp2_with fail
    go_ret2
    exact ⟨rfl, ⟨_, _, _, h2.out.kept ((Kp.refl (fun _ => False) _).drewN _) (fun _ _ _ h => h)⟩, (Kp.of_below (hb1.out.trans (hb2.mono hb1.out.size))).drewN _⟩
  · clear ht
    go_upto_region 6 with ((go_at_call 47; (with_reducible refine (hfind.out _ h2.out).mono ?_); rintro e w3 ⟨rfl, rfl⟩))
    go_quiet (fail)
    go_wp2_with fail
    go_ret2
    exact ⟨rfl, ⟨_, _, _, h2.out.kept ((Kp.refl (fun _ => False) _).drewN _) (fun _ _ _ h => h)⟩, (Kp.of_below (hb1.out.trans (hb2.mono hb1.out.size))).drewN _⟩
set_option maxHeartbeats 2000000 in
set_option maxRecDepth 100000 in
theorem submit_unfit (h : PBv P w gb b v mb D) (d : Dl) {i : Nat} (hm : mayB d b.mem b.cur = true) (hid : In64 d.id) (ha : atL b.l d.id = some i) (hi : i < b.l.length) (hlen : b.l.length ≤ 200) (hs1 : (b.l[i]).st = 1) (hs2 : (b.l[i]).d.a ≠ d.a) (hu : d.same (b.l[i]).d.mir = false) :
    Calls Tryz.prog 21 #[.pointer (some ⟨gb, 0, none⟩), d.val] w fun e w' => e = .returned (.tuple #[.bool false, .int .i64 12]) ∧ PB P w' gb b ∧ Kp P w w' := by
  have hb1 : Below w.heap.size w (w.alloc d.obj) := (Below.refl _ _).alloc (Nat.le_refl _) _
  have hn := heap_alloc_new w d.obj
  have h1 := h.below hb1
  have hS : ∀ w2, Below (w.alloc d.obj).heap.size (w.alloc d.obj) w2 → (w2.cell? ⟨w.heap.size, 0, none⟩ = some (.int .i64 d.id) ∧ w2.cell? ⟨w.heap.size, 1, none⟩ = some (.int .i64 d.a) ∧ w2.cell? ⟨w.heap.size, 2, none⟩ = some (.int .i64 d.b) ∧ w2.cell? ⟨w.heap.size, 3, none⟩ = some (.int .i64 d.sc) ∧ w2.cell? ⟨w.heap.size, 4, none⟩ = some (.int .i64 d.bc) ∧ w2.cell? ⟨w.heap.size, 5, none⟩ = some (.int .i64 d.s) ∧ w2.cell? ⟨w.heap.size, 6, none⟩ = some (.int .i64 d.t)) ∧ w2.cell? ⟨gb, 0, none⟩ = some (.int .i64 b.mem) ∧ w2.cell? ⟨gb, 1, none⟩ = some (.int .i64 b.cur) := fun w2 hb => ⟨boxD w2 _ d (boxD_below hn hb), (pb_head ⟨v, mb, D, h1.below hb⟩).1, (pb_head ⟨v, mb, D, h1.below hb⟩).2.1⟩
  have hmay := fun w2 => mayBe_any d b.mem b.cur w2
  rw [hm] at hmay
  obtain ⟨hlt, -⟩ := atL_some ha
  obtain ⟨g, hg⟩ := h.has hlt
  have hfind := fun w2 (h2 : PBv P w2 gb b v mb D) => h2.find_some hid ha hg (by omega)
  have hent := fun w2 (h2 : PBv P w2 gb b v mb D) => h2.entry hlt hg
  have hmir := fun w2 => mirror_any (b.l[i]).d w2
  have hneq := fun w2 => neq_deal d (b.l[i]).d.mir w2
  rw [hu] at hneq
  unfold Dl.val at hmir hneq
  clear hu
  generalize b.l[i] = x at *
  have hent7 : ∀ w', PBv P w' gb b v mb D → (w'.cell? ⟨g, i * 10, none⟩ = some (.int .i64 x.d.id) ∧ w'.cell? ⟨g, i * 10 + 1, none⟩ = some (.int .i64 x.d.a) ∧ w'.cell? ⟨g, i * 10 + 2, none⟩ = some (.int .i64 x.d.b) ∧ w'.cell? ⟨g, i * 10 + 3, none⟩ = some (.int .i64 x.d.sc) ∧ w'.cell? ⟨g, i * 10 + 4, none⟩ = some (.int .i64 x.d.bc) ∧ w'.cell? ⟨g, i * 10 + 5, none⟩ = some (.int .i64 x.d.s) ∧ w'.cell? ⟨g, i * 10 + 6, none⟩ = some (.int .i64 x.d.t)) := fun w2 h2 => by obtain ⟨e0, e1, e2, e3, e4, e5, e6, e7, e8, e9⟩ := hent w2 h2; exact ⟨e0, e1, e2, e3, e4, e5, e6⟩
  replace hfind := Lib.hid hfind
  replace hent := Lib.hid hent
  replace hent7 := Lib.hid hent7
  replace hS := Lib.hid hS
  replace h1 := Lib.hid h1
  replace hb1 := Lib.hid hb1
  replace hn := Lib.hid hn
  replace hm := Lib.hid hm
  replace h := Lib.hid h
  unfold Dl.val at *
  unfold Dl.obj at *
  go_enter Tryz.func21, Tryz.ntmps21
  go_wp2_with fail
  generalize w.alloc _ = w1 at *
  have hS1 := hS.out w1 (Below.refl _ _)
  obtain ⟨⟨k0, k1, k2, k3, k4, k5, k6⟩, k7, k8⟩ := hS1
  go_region_held3 (fun w' => (w'.cell? ⟨w.heap.size, 0, none⟩ = some (.int .i64 d.id) ∧ w'.cell? ⟨w.heap.size, 1, none⟩ = some (.int .i64 d.a) ∧ w'.cell? ⟨w.heap.size, 2, none⟩ = some (.int .i64 d.b) ∧ w'.cell? ⟨w.heap.size, 3, none⟩ = some (.int .i64 d.sc) ∧ w'.cell? ⟨w.heap.size, 4, none⟩ = some (.int .i64 d.bc) ∧ w'.cell? ⟨w.heap.size, 5, none⟩ = some (.int .i64 d.s) ∧ w'.cell? ⟨w.heap.size, 6, none⟩ = some (.int .i64 d.t)) ∧ w'.cell? ⟨gb, 0, none⟩ = some (.int .i64 b.mem) ∧ w'.cell? ⟨gb, 1, none⟩ = some (.int .i64 b.cur)) (first | exact hS.out w1 (Below.refl _ _) | exact hHeld | exact hS.out _ hb2) ((go_at_call 46; (with_reducible refine (hmay _).mono ?_); rintro e w2 ⟨rfl, hb2⟩; replace hb2 := below_drew hb2))
  clear k0 k1 k2 k3 k4 k5 k6 k7 k8
  have hS2 := hS.out w2 hb2
  obtain ⟨⟨k0, k1, k2, k3, k4, k5, k6⟩, k7, k8⟩ := hS2
  have h2 := Lib.hid (h1.out.below hb2)
  have hq : (x.st != 1) = false := by simp [hs1]
  have hq2 : (x.d.a == d.a) = false := by simpa using hs2
  clear hs1 hs2
  obtain ⟨e0, e1, e2, e3, e4, e5, e6, e7, e8, e9⟩ := hent.out _ h2.out
  go_upto_region 6 with ((go_at_call 47; (with_reducible refine (hfind.out _ h2.out).mono ?_); rintro e w3 ⟨rfl, rfl⟩))
  go_quiet (fail)
  go_upto_region 8 with (fail)
  go_region_held3 (fun w' => (w'.cell? ⟨w.heap.size, 0, none⟩ = some (.int .i64 d.id) ∧ w'.cell? ⟨w.heap.size, 1, none⟩ = some (.int .i64 d.a) ∧ w'.cell? ⟨w.heap.size, 2, none⟩ = some (.int .i64 d.b) ∧ w'.cell? ⟨w.heap.size, 3, none⟩ = some (.int .i64 d.sc) ∧ w'.cell? ⟨w.heap.size, 4, none⟩ = some (.int .i64 d.bc) ∧ w'.cell? ⟨w.heap.size, 5, none⟩ = some (.int .i64 d.s) ∧ w'.cell? ⟨w.heap.size, 6, none⟩ = some (.int .i64 d.t)) ∧ (w'.cell? ⟨g, i * 10, none⟩ = some (.int .i64 x.d.id) ∧ w'.cell? ⟨g, i * 10 + 1, none⟩ = some (.int .i64 x.d.a) ∧ w'.cell? ⟨g, i * 10 + 2, none⟩ = some (.int .i64 x.d.b) ∧ w'.cell? ⟨g, i * 10 + 3, none⟩ = some (.int .i64 x.d.sc) ∧ w'.cell? ⟨g, i * 10 + 4, none⟩ = some (.int .i64 x.d.bc) ∧ w'.cell? ⟨g, i * 10 + 5, none⟩ = some (.int .i64 x.d.s) ∧ w'.cell? ⟨g, i * 10 + 6, none⟩ = some (.int .i64 x.d.t))) (first | exact ⟨⟨k0, k1, k2, k3, k4, k5, k6⟩, e0, e1, e2, e3, e4, e5, e6⟩ | exact hHeld | exact ⟨(hS.out _ (hb2.trans (hb5.mono hb2.size))).1, hE4⟩) ((go_at_call 49; (with_reducible refine (hmir _).mono ?_); rintro e w4 ⟨rfl, hb4⟩; have hb5 : Below w2.heap.size w2 w4 := ⟨hb4.os, hb4.tape, hb4.output, hb4.size, hb4.block⟩; clear hb4; have hE4 := hent7.out _ (h2.out.below hb5)))
  go_wp2_with fail
  go_ret2
  exact ⟨rfl, ⟨_, _, _, h2.out.below hb5⟩, Kp.of_below (hb1.out.trans ((hb2.trans (hb5.mono hb2.size)).mono hb1.out.size))⟩
set_option maxHeartbeats 2000000 in
set_option maxRecDepth 100000 in
theorem submit_match (h : PBv P w gb b v mb D) (d : Dl) {i : Nat} (hm : mayB d b.mem b.cur = true) (hid : In64 d.id) (ha : atL b.l d.id = some i) (hi : i < b.l.length) (hlen : b.l.length ≤ 200) (hs1 : (b.l[i]).st = 1) (hs2 : (b.l[i]).d.a ≠ d.a) (hu : d.same (b.l[i]).d.mir = true) (hmany : b.many ≤ 1000) :
    Calls Tryz.prog 21 #[.pointer (some ⟨gb, 0, none⟩), d.val] w fun e w' => e = .returned (.tuple #[.bool true, .int .i64 0]) ∧ PB P w' gb { b with l := b.l.set i { b.l[i] with st := 2, nth := (b.many : Int) + 1 }, many := b.many + 1 } ∧ Kp P w w' := by
  have hb1 : Below w.heap.size w (w.alloc d.obj) := (Below.refl _ _).alloc (Nat.le_refl _) _
  have hn := heap_alloc_new w d.obj
  have h1 := h.below hb1
  have hS : ∀ w2, Below (w.alloc d.obj).heap.size (w.alloc d.obj) w2 → (w2.cell? ⟨w.heap.size, 0, none⟩ = some (.int .i64 d.id) ∧ w2.cell? ⟨w.heap.size, 1, none⟩ = some (.int .i64 d.a) ∧ w2.cell? ⟨w.heap.size, 2, none⟩ = some (.int .i64 d.b) ∧ w2.cell? ⟨w.heap.size, 3, none⟩ = some (.int .i64 d.sc) ∧ w2.cell? ⟨w.heap.size, 4, none⟩ = some (.int .i64 d.bc) ∧ w2.cell? ⟨w.heap.size, 5, none⟩ = some (.int .i64 d.s) ∧ w2.cell? ⟨w.heap.size, 6, none⟩ = some (.int .i64 d.t)) ∧ w2.cell? ⟨gb, 0, none⟩ = some (.int .i64 b.mem) ∧ w2.cell? ⟨gb, 1, none⟩ = some (.int .i64 b.cur) := fun w2 hb => ⟨boxD w2 _ d (boxD_below hn hb), (pb_head ⟨v, mb, D, h1.below hb⟩).1, (pb_head ⟨v, mb, D, h1.below hb⟩).2.1⟩
  have hmay := fun w2 => mayBe_any d b.mem b.cur w2
  rw [hm] at hmay
  obtain ⟨hlt, -⟩ := atL_some ha
  obtain ⟨g, hg⟩ := h.has hlt
  have hfind := fun w2 (h2 : PBv P w2 gb b v mb D) => h2.find_some hid ha hg (by omega)
  have hent := fun w2 (h2 : PBv P w2 gb b v mb D) => h2.entry hlt hg
  have hmir := fun w2 => mirror_any (b.l[i]).d w2
  have hneq := fun w2 => neq_deal d (b.l[i]).d.mir w2
  rw [hu] at hneq
  unfold Dl.val at hmir hneq
  clear hu
  have hgl := (World.ownsRow.lt h.row g hg).2
  have hgbl := h.lt
  have hput : ∀ w2, PBv P w2 gb b v mb D → Hid (PB P (((w2.setCell ⟨gb, 4, none⟩ (.int .i64 ((b.many : Int) + 1))).setCell ⟨g, i * 10 + 7, none⟩ (.int .i64 2)).setCell ⟨g, i * 10 + 9, none⟩ (.int .i64 ((b.many : Int) + 1))) gb { b with l := b.l.set i { b.l[i] with st := 2, nth := (b.many : Int) + 1 }, many := b.many + 1 } ∧ Kp P w2 (((w2.setCell ⟨gb, 4, none⟩ (.int .i64 ((b.many : Int) + 1))).setCell ⟨g, i * 10 + 7, none⟩ (.int .i64 2)).setCell ⟨g, i * 10 + 9, none⟩ (.int .i64 ((b.many : Int) + 1))) ∧ w2.cell? ⟨gb, 4, none⟩ = some (.int .i64 (b.many : Nat)) ∧ w2.frozen? ⟨gb, 4, none⟩ = false ∧ w2.frozen? ⟨g, i * 10 + 7, none⟩ = false ∧ w2.frozen? ⟨g, i * 10 + 9, none⟩ = false ∧ w2.cell? ⟨g, i * 10 + 7, none⟩ = some (.int .i64 (b.l[i]).st) ∧ w2.cell? ⟨g, i * 10 + 9, none⟩ = some (.int .i64 (b.l[i]).nth)) := fun w2 h2 => by
    have a1 := h2.more (b.many + 1)
    have a2 := a1.put hg hi 7 (.int .i64 2) { b.l[i] with st := 2 } (by omega) rfl rfl
    have a3 := a2.put hg (i := i) (by simpa using hi) 9 (.int .i64 ((b.many : Int) + 1)) { b.l[i] with st := 2, nth := (b.many : Int) + 1 } (by omega) (by simp [En.cs]) (by simp)
    simp only [List.set_set] at a3
    have ecast : (((b.many + 1 : Nat) : Nat) : Int) = (b.many : Int) + 1 := by omega
    rw [ecast] at a3
    exact Lib.hid ⟨⟨_, _, _, a3⟩, (((Kp.refl P w2).setCell (.inl h2.pg) _).setCell (.inl (h2.pv g hg)) _).setCell (.inl (h2.pv g hg)) _, obj_cell h2.obj rfl, obj_free h2.obj 4, orow_free h2.row hg _, orow_free h2.row hg _, h2.cells hg hi 7 _ (by omega) rfl, h2.cells hg hi 9 _ (by omega) rfl⟩
  have hne : gb ≠ g := fun e => h.nv (by rw [e]; exact hg)
  have hz1 : (0 : Int) ≤ (b.many : Int) := by omega
  have hz2 : (b.many : Int) ≤ 1000 := by omega
  generalize b.l[i] = x at *
  have hent7 : ∀ w', PBv P w' gb b v mb D → (w'.cell? ⟨g, i * 10, none⟩ = some (.int .i64 x.d.id) ∧ w'.cell? ⟨g, i * 10 + 1, none⟩ = some (.int .i64 x.d.a) ∧ w'.cell? ⟨g, i * 10 + 2, none⟩ = some (.int .i64 x.d.b) ∧ w'.cell? ⟨g, i * 10 + 3, none⟩ = some (.int .i64 x.d.sc) ∧ w'.cell? ⟨g, i * 10 + 4, none⟩ = some (.int .i64 x.d.bc) ∧ w'.cell? ⟨g, i * 10 + 5, none⟩ = some (.int .i64 x.d.s) ∧ w'.cell? ⟨g, i * 10 + 6, none⟩ = some (.int .i64 x.d.t)) := fun w2 h2 => by obtain ⟨e0, e1, e2, e3, e4, e5, e6, e7, e8, e9⟩ := hent w2 h2; exact ⟨e0, e1, e2, e3, e4, e5, e6⟩
  replace hfind := Lib.hid hfind
  replace hent := Lib.hid hent
  replace hent7 := Lib.hid hent7
  replace hput := Lib.hid hput
  replace hS := Lib.hid hS
  replace h1 := Lib.hid h1
  replace hb1 := Lib.hid hb1
  replace hn := Lib.hid hn
  replace hm := Lib.hid hm
  replace h := Lib.hid h
  unfold Dl.val at *
  unfold Dl.obj at *
  go_enter Tryz.func21, Tryz.ntmps21
  go_wp2_with fail
  generalize w.alloc _ = w1 at *
  have hS1 := hS.out w1 (Below.refl _ _)
  obtain ⟨⟨k0, k1, k2, k3, k4, k5, k6⟩, k7, k8⟩ := hS1
  go_region_held3 (fun w' => (w'.cell? ⟨w.heap.size, 0, none⟩ = some (.int .i64 d.id) ∧ w'.cell? ⟨w.heap.size, 1, none⟩ = some (.int .i64 d.a) ∧ w'.cell? ⟨w.heap.size, 2, none⟩ = some (.int .i64 d.b) ∧ w'.cell? ⟨w.heap.size, 3, none⟩ = some (.int .i64 d.sc) ∧ w'.cell? ⟨w.heap.size, 4, none⟩ = some (.int .i64 d.bc) ∧ w'.cell? ⟨w.heap.size, 5, none⟩ = some (.int .i64 d.s) ∧ w'.cell? ⟨w.heap.size, 6, none⟩ = some (.int .i64 d.t)) ∧ w'.cell? ⟨gb, 0, none⟩ = some (.int .i64 b.mem) ∧ w'.cell? ⟨gb, 1, none⟩ = some (.int .i64 b.cur)) (first | exact hS.out w1 (Below.refl _ _) | exact hHeld | exact hS.out _ hb2) ((go_at_call 46; (with_reducible refine (hmay _).mono ?_); rintro e w2 ⟨rfl, hb2⟩; replace hb2 := below_drew hb2))
  clear k0 k1 k2 k3 k4 k5 k6 k7 k8
  have hS2 := hS.out w2 hb2
  obtain ⟨⟨k0, k1, k2, k3, k4, k5, k6⟩, k7, k8⟩ := hS2
  have h2 := Lib.hid (h1.out.below hb2)
  have hq : (x.st != 1) = false := by simp [hs1]
  have hq2 : (x.d.a == d.a) = false := by simpa using hs2
  clear hs1 hs2
  obtain ⟨e0, e1, e2, e3, e4, e5, e6, e7, e8, e9⟩ := hent.out _ h2.out
  go_upto_region 6 with ((go_at_call 47; (with_reducible refine (hfind.out _ h2.out).mono ?_); rintro e w3 ⟨rfl, rfl⟩))
  go_quiet (fail)
  go_upto_region 8 with (fail)
  go_region_held3 (fun w' => (w'.cell? ⟨w.heap.size, 0, none⟩ = some (.int .i64 d.id) ∧ w'.cell? ⟨w.heap.size, 1, none⟩ = some (.int .i64 d.a) ∧ w'.cell? ⟨w.heap.size, 2, none⟩ = some (.int .i64 d.b) ∧ w'.cell? ⟨w.heap.size, 3, none⟩ = some (.int .i64 d.sc) ∧ w'.cell? ⟨w.heap.size, 4, none⟩ = some (.int .i64 d.bc) ∧ w'.cell? ⟨w.heap.size, 5, none⟩ = some (.int .i64 d.s) ∧ w'.cell? ⟨w.heap.size, 6, none⟩ = some (.int .i64 d.t)) ∧ (w'.cell? ⟨g, i * 10, none⟩ = some (.int .i64 x.d.id) ∧ w'.cell? ⟨g, i * 10 + 1, none⟩ = some (.int .i64 x.d.a) ∧ w'.cell? ⟨g, i * 10 + 2, none⟩ = some (.int .i64 x.d.b) ∧ w'.cell? ⟨g, i * 10 + 3, none⟩ = some (.int .i64 x.d.sc) ∧ w'.cell? ⟨g, i * 10 + 4, none⟩ = some (.int .i64 x.d.bc) ∧ w'.cell? ⟨g, i * 10 + 5, none⟩ = some (.int .i64 x.d.s) ∧ w'.cell? ⟨g, i * 10 + 6, none⟩ = some (.int .i64 x.d.t))) (first | exact ⟨⟨k0, k1, k2, k3, k4, k5, k6⟩, e0, e1, e2, e3, e4, e5, e6⟩ | exact hHeld | exact ⟨(hS.out _ (hb2.trans (hb5.mono hb2.size))).1, hE4⟩) ((go_at_call 49; (with_reducible refine (hmir _).mono ?_); rintro e w4 ⟨rfl, hb4⟩; have hb5 : Below w2.heap.size w2 w4 := ⟨hb4.os, hb4.tape, hb4.output, hb4.size, hb4.block⟩; clear hb4; have hE4 := hent7.out _ (h2.out.below hb5)))
  have hgl4 : g < w4.heap.size := by have := hb1.out.size; have := hb2.size; have := hb5.size; omega
  have hgbl4 : gb < w4.heap.size := by have := hb1.out.size; have := hb2.size; have := hb5.size; omega
  have hH := hput.out _ (h2.out.below hb5)
  obtain ⟨hfin, hkp, m4, f4, f7, f9, g7, g9⟩ := hH.out
  clear hH
  replace hfin := Lib.hid hfin
  replace hkp := Lib.hid hkp
  go_wp2_with fail
  go_ret2
  exact ⟨rfl, hfin.out, (Kp.of_below (hb1.out.trans ((hb2.trans (hb5.mono hb2.size)).mono hb1.out.size))).trans hkp.out⟩
theorem submit_any (h : PB P w gb b) (d : Dl) (hid : In64 d.id) (hlen : b.l.length ≤ 200) (hmany : b.many ≤ 1000) (hf : ∀ i, w.heap.size ≤ i → P i) :
    Calls Tryz.prog 21 #[.pointer (some ⟨gb, 0, none⟩), d.val] w fun e w' => e = .returned (.tuple #[.bool (b.sub d).1.1, .int .i64 (b.sub d).1.2]) ∧ PB P w' gb (b.sub d).2 ∧ Kp P w w' := by
  obtain ⟨v, mb, D, h⟩ := h
  rcases hm : mayB d b.mem b.cur with _ | _
  · have e : b.sub d = ((false, 1), b) := by unfold Bk.sub; rw [if_pos hm]
    rw [e]; exact submit_no h d hm
  · rcases ha : atL b.l d.id with _ | i
    · have c := submit_new h d hm hid ha hlen hf
      by_cases h2 : 200 ≤ b.l.length
      · have e : b.sub d = ((false, 4), b) := by unfold Bk.sub; rw [if_neg (by rw [hm]; simp), ha]; dsimp only; rw [if_pos h2]
        rw [if_pos h2, if_pos h2] at c
        rw [e]; exact c
      · have e : b.sub d = ((false, 0), { b with l := b.l ++ [⟨d, 1, 0, 0⟩] }) := by unfold Bk.sub; rw [if_neg (by rw [hm]; simp), ha]; dsimp only; rw [if_neg h2]
        rw [if_neg h2, if_neg h2] at c
        rw [e]; exact c
    · obtain ⟨hi, -⟩ := atL_some ha
      have e0 : b.sub d = if (b.l[i]).st ≠ 1 ∨ (b.l[i]).d.a = d.a then ((false, 6), b) else if d ≠ (b.l[i]).d.mir then ((false, 12), b) else ((true, 0), { b with l := b.l.set i { b.l[i] with st := 2, nth := (b.many : Int) + 1 }, many := b.many + 1 }) := by
        unfold Bk.sub; rw [if_neg (by rw [hm]; simp), ha]; dsimp only; rw [getD_at hi]
      by_cases ht : (b.l[i]).st ≠ 1 ∨ (b.l[i]).d.a = d.a
      · rw [if_pos ht] at e0
        rw [e0]; exact submit_twice h d hm hid ha hi hlen ht
      · rw [if_neg ht] at e0
        have hs1 : (b.l[i]).st = 1 := by omega
        have hs2 : (b.l[i]).d.a ≠ d.a := by omega
        rcases hu : d.same (b.l[i]).d.mir with _ | _
        · rw [if_pos (fun e => by rw [Dl.same_iff.2 e] at hu; cases hu)] at e0
          rw [e0]; exact submit_unfit h d hm hid ha hi hlen hs1 hs2 hu
        · rw [if_neg (fun e => e (Dl.same_iff.1 hu))] at e0
          rw [e0]; exact submit_match h d hm hid ha hi hlen hs1 hs2 hu hmany
end
end Go.Proofs.YthocnlalahknjaaGreat.Dd
namespace Go.Proofs.YthocnlalahknjaaGreat.Dd
set_option linter.unusedVariables false

/-- k bytes of a number, the highest first -/
def bes : Nat → Nat → List UInt8
  | 0, _ => []
  | k + 1, n => UInt8.ofNat (n / 256 ^ k % 256) :: bes k n
/-- what bytes tell -/
def vls (l : List UInt8) : Nat := l.foldl (fun n b => n * 256 + b.toNat) 0
theorem bes_length : ∀ k n, (bes k n).length = k
  | 0, _ => rfl
  | k + 1, n => by rw [bes, List.length_cons, bes_length k n]
theorem vls_from (l : List UInt8) : ∀ a, l.foldl (fun n b => n * 256 + b.toNat) a = a * 256 ^ l.length + vls l := by
  unfold vls
  induction l with
  | nil => intro a; simp
  | cons b l ih =>
    intro a
    rw [List.foldl_cons, ih, List.foldl_cons, ih (0 * 256 + b.toNat), List.length_cons, Nat.pow_succ]
    rw [Nat.add_mul, Nat.zero_mul, Nat.zero_add, Nat.mul_assoc, Nat.mul_comm 256 (256 ^ l.length), Nat.add_assoc]
theorem vls_cons (b : UInt8) (l : List UInt8) : vls (b :: l) = b.toNat * 256 ^ l.length + vls l := by
  show List.foldl _ (0 * 256 + b.toNat) l = _
  rw [vls_from, Nat.zero_mul, Nat.zero_add]
theorem vls_snoc (l : List UInt8) (b : UInt8) : vls (l ++ [b]) = vls l * 256 + b.toNat := by
  unfold vls
  rw [List.foldl_append]
  rfl
theorem vls_lt : ∀ l : List UInt8, vls l < 256 ^ l.length
  | [] => by decide
  | b :: l => by
    rw [vls_cons, List.length_cons, Nat.pow_succ]
    have h1 := vls_lt l
    have h2 : b.toNat ≤ 255 := by have := b.toNat_lt; omega
    have h3 : b.toNat * 256 ^ l.length ≤ 255 * 256 ^ l.length := Nat.mul_le_mul_right _ h2
    omega
theorem vls_bes : ∀ k n, vls (bes k n) = n % 256 ^ k
  | 0, n => by rw [Nat.pow_zero, Nat.mod_one]; rfl
  | k + 1, n => by
    rw [bes, vls_cons, bes_length, vls_bes k n, UInt8.toNat_ofNat', Nat.mod_eq_of_lt (by omega : n / 256 ^ k % 256 < 2 ^ 8), Nat.pow_succ, Nat.mod_mul]
    rw [Nat.mul_comm (256 ^ k), Nat.add_comm]
theorem bes_add (k n m : Nat) : bes k (n + m * 256 ^ k) = bes k n := by
  induction k generalizing m with
  | zero => rfl
  | succ k ih =>
    have e : n + m * 256 ^ (k + 1) = n + (m * 256) * 256 ^ k := by rw [Nat.pow_succ, Nat.mul_comm (256 ^ k) 256, Nat.mul_assoc]
    rw [bes, bes, e, ih, Nat.add_mul_div_right _ _ (Nat.pow_pos (by decide)), Nat.add_mul_mod_self_right]
theorem bes_vls : ∀ l : List UInt8, bes l.length (vls l) = l
  | [] => rfl
  | b :: l => by
    rw [List.length_cons, bes, vls_cons]
    have h1 := vls_lt l
    have hp : 0 < 256 ^ l.length := Nat.pow_pos (by decide)
    have e1 : (b.toNat * 256 ^ l.length + vls l) / 256 ^ l.length = b.toNat := by
      rw [Nat.add_comm, Nat.add_mul_div_right _ _ hp, Nat.div_eq_of_lt h1, Nat.zero_add]
    have e2 : bes l.length (b.toNat * 256 ^ l.length + vls l) = l := by
      rw [Nat.add_comm, bes_add, bes_vls l]
    rw [e1, e2, Nat.mod_eq_of_lt b.toNat_lt, UInt8.ofNat_toNat]

/-- a number of 64 bits, with its sign, as one without; and back -/
def toU (x : Int) : Nat := (x % 18446744073709551616).toNat
def toI (n : Nat) : Int := if n < 9223372036854775808 then (n : Int) else (n : Int) - 18446744073709551616
theorem toU_lt (x : Int) : toU x < 18446744073709551616 := by unfold toU; omega
theorem toI_toU (x : Int) (h : -9223372036854775808 ≤ x ∧ x ≤ 9223372036854775807) : toI (toU x) = x := by
  unfold toI toU
  split <;> omega
theorem toU_toI (n : Nat) (h : n < 18446744073709551616) : toU (toI n) = n := by
  unfold toI toU
  split <;> omega
theorem toI_bnd (n : Nat) (h : n < 18446744073709551616) : -9223372036854775808 ≤ toI n ∧ toI n ≤ 9223372036854775807 := by unfold toI; split <;> omega
theorem toU_nat (n : Nat) (h : n < 18446744073709551616) : toU (n : Int) = n := by unfold toU; omega

end Go.Proofs.YthocnlalahknjaaGreat.Dd
namespace Go.Proofs.YthocnlalahknjaaGreat.Dd
open Go.RowKit Go.Maps
set_option linter.unusedVariables false

/-- a text as bytes -/
def bl (s : ByteArray) : List UInt8 := s.data.toList
theorem bl_length (s : ByteArray) : (bl s).length = s.size := by show s.data.toList.length = s.data.size; simp
def Row (w : World) (v : Value) (l : List UInt8) : Prop := w.ownsRow 0 5 1 v l.length (Lib.byteCells l)
theorem Row.lt {w : World} {v : Value} {l : List UInt8} (h : Row w v l) : ∀ g, v.ownBlock = some g → g < w.heap.size := fun g hg => (World.ownsRow.lt h g hg).2
theorem Row.kept {w w' : World} {v : Value} {l : List UInt8} (h : Row w v l) (hb : ∀ g, v.ownBlock = some g → w'.heap[g]? = w.heap[g]?) : Row w' v l := orow_kept h hb
theorem or_byte (m b : Nat) (hm : m < 72057594037927936) (hb : b < 256) : bits .or .i64 (IntKind.i64.wrap ((m * 256 : Nat) : Int)) (b : Int) = toI (m * 256 + b) := by
  have e1 : BitVec.ofInt IntKind.i64.bits (IntKind.i64.wrap ((m * 256 : Nat) : Int)) = BitVec.ofNat IntKind.i64.bits (m * 256) := by
    apply BitVec.eq_of_toNat_eq
    rw [BitVec.toNat_ofInt, BitVec.toNat_ofNat]
    unfold IntKind.wrap
    simp [IntKind.bits, IntKind.signed]
    split <;> omega
  have e2 : BitVec.ofInt IntKind.i64.bits (b : Int) = BitVec.ofNat IntKind.i64.bits b := by
    apply BitVec.eq_of_toNat_eq
    rw [BitVec.toNat_ofInt, BitVec.toNat_ofNat]
    simp [IntKind.bits]
    omega
  have e3 : m * 256 ||| b = m * 256 + b := by
    have := Nat.shiftLeft_add_eq_or_of_lt (b := b) (i := 8) (by omega) m
    rw [Nat.shiftLeft_eq] at this
    exact this.symm
  unfold bits
  rw [e1, e2]
  simp only [BitVec.toNat_or, BitVec.toNat_ofNat]
  have h1 : (2 : Nat) ^ IntKind.i64.bits = 18446744073709551616 := by decide
  rw [h1, Nat.mod_eq_of_lt (by omega), Nat.mod_eq_of_lt (by omega), e3]
  unfold toI IntKind.wrap
  simp [IntKind.bits, IntKind.signed]
  split <;> omega
theorem wrap_shl (m : Nat) : IntKind.i64.wrap (toI m * 256) = IntKind.i64.wrap ((m * 256 : Nat) : Int) := by
  unfold toI IntKind.wrap
  simp [IntKind.bits, IntKind.signed]
  split <;> (repeat' split) <;> omega
theorem shr_byte (n : Int) (q : Nat) (hq : q ≤ 7) : (n / ((2 : Int) ^ (8 * q))) % 256 = (((toU n / 256 ^ q) % 256 : Nat) : Int) := by
  have h : q = 0 ∨ q = 1 ∨ q = 2 ∨ q = 3 ∨ q = 4 ∨ q = 5 ∨ q = 6 ∨ q = 7 := by omega
  unfold toU
  rcases h with rfl | rfl | rfl | rfl | rfl | rfl | rfl | rfl <;> simp only [Nat.reduceMul, Nat.reducePow, Int.reducePow] <;> omega

theorem byte_nat (x : Nat) : ((UInt8.ofNat (x % 256)).toNat : Int) = ((x % 256 : Nat) : Int) := by
  rw [UInt8.toNat_ofNat']
  omega
/-- bytes are laid behind a row's -/
structure Laid (w wr : World) (v b : Value) (l : List UInt8) : Prop where
  row : Row wr b l
  kp : Kp (fun j => v.ownBlock = some j) w wr
  own : ∀ g, b.ownBlock = some g → v.ownBlock = some g ∨ w.heap.size ≤ g
theorem bes_take_succ (k n q : Nat) (hq : q < k) : (bes k n).take (k - q) = (bes k n).take (k - (q + 1)) ++ [UInt8.ofNat (n / 256 ^ q % 256)] := by
  induction k with
  | zero => omega
  | succ k ih =>
    by_cases e : q = k
    · subst e
      rw [show q + 1 - q = 1 by omega, show q + 1 - (q + 1) = 0 by omega]
      rfl
    · rw [show k + 1 - q = (k - q) + 1 by omega, show k + 1 - (q + 1) = (k - (q + 1)) + 1 by omega, bes, List.take_succ_cons, List.take_succ_cons, List.cons_append, ← ih (by omega)]

theorem vls_take_succ (l : List UInt8) (i : Nat) (h : i < l.length) : vls (l.take (i + 1)) = vls (l.take i) * 256 + (l[i]).toNat := by
  rw [List.take_succ_eq_append_getElem h, vls_snoc]

theorem IxD.nil : IxD (.map []) [] := ⟨⟨[], rfl⟩, fun _ _ => rfl, fun _ _ _ h => by cases h⟩
def newR (mem cur : Int) : Bool := decide (1 ≤ mem ∧ mem ≤ 16 ∧ 1 ≤ cur ∧ cur ≤ 8)
set_option maxHeartbeats 2000000 in
set_option maxRecDepth 100000 in
theorem new_no (mem cur : Int) (w : World) (h : newR mem cur = false) : Calls Tryz.prog 20 #[.int .i64 mem, .int .i64 cur] w fun e w' => e = .returned (.tuple #[.pointer none, .int .i64 1]) ∧ w = w' := by
  unfold newR at h
  have hh : ¬ (1 ≤ mem ∧ mem ≤ 16 ∧ 1 ≤ cur ∧ cur ≤ 8) := of_decide_eq_false h
  clear h
  by_cases a1 : mem < 1
  · go_enter Tryz.func20, Tryz.ntmps20
    go_wp2_with fail
    go_ret2
    exact ⟨rfl, rfl⟩
  · by_cases a2 : 16 < mem
    · go_enter Tryz.func20, Tryz.ntmps20
      go_wp2_with fail
      go_ret2
      exact ⟨rfl, rfl⟩
    · by_cases a3 : cur < 1
      · go_enter Tryz.func20, Tryz.ntmps20
        go_wp2_with fail
        go_ret2
        exact ⟨rfl, rfl⟩
      · have a4 : 8 < cur := by omega
        clear hh
        go_enter Tryz.func20, Tryz.ntmps20
        go_wp2_with fail
        go_ret2
        exact ⟨rfl, rfl⟩
set_option maxHeartbeats 2000000 in
set_option maxRecDepth 100000 in
theorem new_yes (P : Nat → Prop) (mem cur : Int) (w : World) (h : newR mem cur = true) (hf : ∀ i, w.heap.size ≤ i → P i) : Calls Tryz.prog 20 #[.int .i64 mem, .int .i64 cur] w fun e w' => ∃ gb, e = .returned (.tuple #[.pointer (some ⟨gb, 0, none⟩), .int .i64 0]) ∧ PB P w' gb ⟨mem, cur, [], 0⟩ ∧ Below w.heap.size w w' ∧ w.heap.size ≤ gb := by
  unfold newR at h
  obtain ⟨a1, a2, a3, a4⟩ := of_decide_eq_true h
  clear h
  have b1 : ¬ mem < 1 := by omega
  have b2 : ¬ 16 < mem := by omega
  have b3 : ¬ cur < 1 := by omega
  have b4 : ¬ 8 < cur := by omega
  have hmm := @run_makeMap Tryz.prog
  go_enter Tryz.func20, Tryz.ntmps20
  go_wp2_with fail
  go_ret2
  refine ⟨w.heap.size + 1, rfl, ⟨.slice none 0 0, w.heap.size, .map [], new_two w _ _, World.ownsRow_nil _ 0 110 10, own_block (World.ownsMap_made w Tryz.prog 3 _) (Below.heap_alloc _ _ _ (by simp)), IxD.nil, hf _ (by omega), hf _ (by omega), fun g hg => by simp [Value.ownBlock] at hg⟩, ((Below.refl _ _).alloc (Nat.le_refl _) _).alloc (by simp) _, by omega⟩
end Go.Proofs.YthocnlalahknjaaGreat.Dd
namespace Go.Proofs.YthocnlalahknjaaGreat.Dd
open Go.RowKit Go.Maps
set_option linter.unusedVariables false

/-- a row of ints -/
def IRow (w : World) (v : Value) (zs : List Int) : Prop := w.ownsRow 0 3 1 v zs.length (zs.map (Value.int .i64))
theorem IRow.at_ {w : World} {v : Value} {zs : List Int} (h : IRow w v zs) {g k : Nat} (hg : v.ownBlock = some g) (hk : k < zs.length) : w.cell? ⟨g, k, none⟩ = some (.int .i64 (zs.getD k 0)) := by
  refine orow_cell h hg ?_
  rw [List.getElem?_map, List.getElem?_eq_getElem hk, List.getD_eq_getElem?_getD, List.getElem?_eq_getElem hk]; rfl
theorem irow_obj {w : World} {v : Value} {zs : List Int} (h : IRow w v zs) {g : Nat} (hg : v.ownBlock = some g) : ∃ cur, w.heap[g]? = some (.cells cur 3 (0, 0)) := by
  rcases h.2 with ⟨rfl, _⟩ | ⟨g', cap, cur, rfl, _, hh, _⟩
  · simp [Value.ownBlock] at hg
  · simp [Value.ownBlock] at hg
    subst hg
    exact ⟨cur, hh⟩
section
variable {P : Nat → Prop} {w w' : World} {gb : Nat} {b : Bk} {v : Value} {mb : Nat} {D : DataW Value}
theorem PBv.irow_ne (h : PBv P w gb b v mb D) {u : Value} {zs : List Int} (hu : IRow w u zs) {g : Nat} (hg : u.ownBlock = some g) : g ≠ gb ∧ g ≠ mb ∧ v.ownBlock ≠ some g := by
  obtain ⟨cur, hc⟩ := irow_obj hu hg
  refine ⟨fun e => ?_, fun e => map_other h.map hc e, fun e => ?_⟩
  · subst e
    have := h.obj.symm.trans hc
    simp at this
  · obtain ⟨cap, cu, _, hh⟩ := h.row_obj e
    have := hh.symm.trans hc
    simp at this
theorem PBv.same (h : PBv P w gb b v mb D) (h1 : w'.heap[gb]? = w.heap[gb]?) (h2 : w'.heap[mb]? = w.heap[mb]?) (h3 : ∀ g, v.ownBlock = some g → w'.heap[g]? = w.heap[g]?) : PBv P w' gb b v mb D :=
  ⟨h1.trans h.obj, orow_kept h.row h3, own_block h.map h2, h.ix, h.pg, h.pm, h.pv⟩
/-- a row of ints beside it goes on -/
theorem PBv.grown (h : PBv P w gb b v mb D) {u : Value} {zs : List Int} (hu : IRow w u zs) (hg : w.grownBy w' u.ownBlock) : PBv P w' gb b v mb D := by
  have hn : ∀ j, j < w.heap.size → (∀ g, u.ownBlock = some g → g ≠ j) → w'.heap[j]? = w.heap[j]? := fun j hj hne => hg.block j hj fun e => hne j e.symm rfl
  exact h.same (hn gb h.lt fun g hg => (h.irow_ne hu hg).1) (hn mb h.map.lt fun g hg => (h.irow_ne hu hg).2.1) fun g hv => hn g (World.ownsRow.lt h.row g hv).2 fun g' hg' e => (h.irow_ne hu hg').2.2 (by rw [e]; exact hv)
end
theorem same_len {a b : List Int} (h : a.length ≠ b.length) : (a == b) = false := by
  rw [beq_eq_false_iff_ne]; intro e; exact h (by rw [e])
end Go.Proofs.YthocnlalahknjaaGreat.Dd
namespace Go.Proofs.YthocnlalahknjaaGreat.Dd
open Go.RowKit Go.Maps
set_option linter.unusedVariables false

/-- the first k entries are gone through -/
def remK (l : List En) (m : Int) (k : Nat) : List En := (l.take k).map (·.rem m) ++ l.drop k
theorem remK_zero (l : List En) (m : Int) : remK l m 0 = l := by unfold remK; simp
theorem remK_all (l : List En) (m : Int) : remK l m l.length = l.map (·.rem m) := by unfold remK; simp
theorem remK_len (l : List En) (m : Int) (k : Nat) : (remK l m k).length = l.length := by unfold remK; simp; omega
theorem remK_get {l : List En} {m : Int} {k : Nat} (h : k < l.length) (h2 : k < (remK l m k).length) : (remK l m k)[k] = l[k] := by
  have e : (remK l m k)[k]? = some l[k] := by
    unfold remK
    rw [List.getElem?_append_right (by simp; omega)]
    simp [Nat.min_eq_left (Nat.le_of_lt h), List.getElem?_drop]
  rw [List.getElem?_eq_getElem h2] at e
  injection e
theorem remK_step {l : List En} {m : Int} {k : Nat} (h : k < l.length) : (remK l m k).set k (l[k].rem m) = remK l m (k + 1) := by
  unfold remK
  rw [List.set_append_right _ _ (by simp; omega), List.take_succ_eq_append_getElem h, List.map_append]
  have e : k - ((l.take k).map (·.rem m)).length = 0 := by simp; omega
  rw [e, List.drop_eq_getElem_cons h, List.set_cons_zero]
  simp
theorem remK_stay {l : List En} {m : Int} {k : Nat} (h : k < l.length) (hh : l[k].hit m = false) : remK l m (k + 1) = remK l m k := by
  rw [← remK_step h]
  have e : l[k].rem m = l[k] := by unfold En.rem; rw [hh]; rfl
  rw [e, ← remK_get (m := m) h (by rw [remK_len]; exact h)]
  exact List.set_getElem_self _
def hitK (l : List En) (m : Int) (k : Nat) : List Int := ((l.take k).filter (·.hit m)).map (·.d.id)
theorem hitK_yes {l : List En} {m : Int} {k : Nat} (h : k < l.length) (hh : l[k].hit m = true) : hitK l m (k + 1) = hitK l m k ++ [l[k].d.id] := by
  unfold hitK; rw [List.take_succ_eq_append_getElem h, List.filter_append, List.map_append]; simp [hh]
theorem hitK_no {l : List En} {m : Int} {k : Nat} (h : k < l.length) (hh : l[k].hit m = false) : hitK l m (k + 1) = hitK l m k := by
  unfold hitK; rw [List.take_succ_eq_append_getElem h, List.filter_append, List.map_append]; simp [hh]
theorem hitK_le (l : List En) (m : Int) (k : Nat) : (hitK l m k).length ≤ l.length := by
  unfold hitK; rw [List.length_map]; have := List.length_filter_le (·.hit m) (l.take k); have h2 := List.length_take_le k l; have : (l.take k).length ≤ l.length := by rw [List.length_take]; omega
  omega
/-- a row of ints and a book, behind k entries -/
structure RS (P : Nat → Prop) (w : World) (gb : Nat) (b : Bk) (v : Value) (mb : Nat) (D : DataW Value) (m : Int) (k : Nat) (u : Value) (wr : World) : Prop where
  pb : PBv P wr gb { b with l := remK b.l m k } v mb D
  row : IRow wr u (hitK b.l m k)
  own : ∀ g, u.ownBlock = some g → w.heap.size ≤ g
  kp : Kp P w wr
theorem irow_app {w : World} {v : Value} {zs : List Int} {x : Int} (h : w.ownsRow 0 3 1 v (zs.length + 1) (zs.map (Value.int .i64) ++ [.int .i64 x])) : IRow w v (zs ++ [x]) := by
  unfold IRow; rw [List.length_append, List.map_append]; exact h
theorem new_set (w : World) (a : Addr) (u : Value) (o : Obj) : ((w.setCell a u).alloc o).heap[w.heap.size]? = some o := by
  have := heap_alloc_new (w.setCell a u) o
  simpa using this
theorem En.hit_eq (x : En) (m : Int) : x.hit m = (x.open && (x.d.a == m || x.d.b == m)) := by
  unfold En.hit
  have e1 : decide (x.d.a = m) = (x.d.a == m) := by rw [Bool.eq_iff_iff]; simp
  have e2 : decide (x.d.b = m) = (x.d.b == m) := by rw [Bool.eq_iff_iff]; simp
  rw [e1, e2]
section
variable {P : Nat → Prop} {w : World} {gb : Nat} {b : Bk} {v : Value} {mb : Nat} {D : DataW Value}
end
end Go.Proofs.YthocnlalahknjaaGreat.Dd
