/- The contract of the reference's Submit: of one that is matched. -/
import Derived.Test.YtflbggehgjllcaaDoorRJ
namespace Go.Proofs.YtflbggehgjllcaaDoor
open Go.RowKit
set_option linter.unusedVariables false
section
variable {P : Nat → Prop} {w : World} {rb : Nat} {b : Bk} {v : Value}
theorem RBv.more (h : RBv P w rb b v) (n : Nat) : RBv P (w.setCell ⟨rb, 3, none⟩ (.int .i64 (n : Nat))) rb { b with many := n } v :=
  ⟨obj_set h.obj 3 _, orow_kept h.row fun g hg => obj_other _ fun e => h.nv (by rw [hg]; exact congrArg some e), h.pg, h.pv⟩
set_option maxHeartbeats 4000000 in
set_option maxRecDepth 100000 in
theorem rsub_yes (h : RB P w rb b) (d : Dl) (hm : mayB d b.mem b.cur = true) {i : Nat} (ha : atL b.l d.id = some i) (hlen : b.l.length ≤ 1000) (hmany : b.many ≤ 1000) (hf : ∀ j, w.heap.size ≤ j → P j)
    (hs1 : (b.l[i]?.map (·.st)) = some 1) (hmir : (b.l[i]?.map (·.d.mir)) = some d) (hna : (b.l[i]?.map (·.d.a)) ≠ some d.a) :
    Calls Tryd.prog 24 #[.pointer (some ⟨rb, 0, none⟩), d.val] w fun e w' => e = .returned (.tuple #[.bool true, .int .i64 0]) ∧ RB P w' rb { b with l := b.l.set i { b.l.getD i default with st := 2, nth := (b.many : Int) + 1 }, many := b.many + 1 } ∧ Kp P w w' := by
  obtain ⟨hlt, hidx⟩ := atL_some ha
  rw [List.getElem?_eq_getElem hlt] at hs1 hmir hna
  simp only [Option.map_some, Option.some.injEq] at hs1 hmir
  have hna : (b.l[i]).d.a ≠ d.a := fun e => hna (by simp [e])
  rw [getD_at hlt]
  have hb0 : Below w.heap.size w (w.alloc d.obj) := (Below.refl _ _).alloc (Nat.le_refl _) _
  have h1 := below_rb h hb0
  have cm := may_any d b.mem b.cur rb (w.alloc d.obj) (rb_head h1).1 (rb_head h1).2
  rw [hm] at cm
  have ca : ∀ W, RB P W rb b → Calls Tryd.prog 28 #[.pointer (some ⟨rb, 0, none⟩), .int .i64 d.id] W fun e w' => e = .returned (.int .i64 (i : Int)) ∧ W = w' := fun W hW => by
    have := at_any hW d.id hlen
    rwa [ha] at this
  have hD := fun w2 => dbox (w := w) (w2 := w2) (d := d)
  obtain ⟨k0, k1, k2, k3, k4, k5, k6⟩ := dbox (Below.refl (w.alloc d.obj).heap.size (w.alloc d.obj))
  have hiz : (0 : Int) ≤ (i : Int) := by omega
  have hin : (i : Int) < (b.l.length : Int) := by omega
  have hmz : (0 : Int) ≤ (b.many : Int) := by omega
  have hmz2 : (b.many : Int) ≤ 1000 := by omega
  have hc : ∀ W, RB P W rb b → rb < W.heap.size ∧ W.cell? ⟨rb, 3, none⟩ = some (.int .i64 (b.many : Nat)) ∧ W.frozen? ⟨rb, 3, none⟩ = false ∧ ∃ g cap, W.cell? ⟨rb, 2, none⟩ = some (.slice (some ⟨g, 0, none⟩) b.l.length cap) ∧ W.cell? ⟨g, i * 11, none⟩ = some (.int .i64 (b.l[i]).d.id) ∧ W.cell? ⟨g, i * 11 + 1, none⟩ = some (.int .i64 (b.l[i]).d.a) ∧ W.cell? ⟨g, i * 11 + 2, none⟩ = some (.int .i64 (b.l[i]).d.b) ∧ W.cell? ⟨g, i * 11 + 3, none⟩ = some (.int .i64 (b.l[i]).d.sc) ∧ W.cell? ⟨g, i * 11 + 4, none⟩ = some (.int .i64 (b.l[i]).d.bc) ∧ W.cell? ⟨g, i * 11 + 5, none⟩ = some (.int .i64 (b.l[i]).d.s) ∧ W.cell? ⟨g, i * 11 + 6, none⟩ = some (.int .i64 (b.l[i]).d.t) ∧ W.cell? ⟨g, i * 11 + 7, none⟩ = some (.int .i64 (b.l[i]).st) ∧ W.cell? ⟨g, i * 11 + 8, none⟩ = some (.bool (b.l[i]).byA) ∧ W.cell? ⟨g, i * 11 + 9, none⟩ = some (.bool (b.l[i]).byB) ∧ W.cell? ⟨g, i * 11 + 10, none⟩ = some (.int .i64 (b.l[i]).nth) := fun W ⟨v, hW⟩ => by
    obtain ⟨g, cap, cur, rfl, -⟩ := orow_some hW.row (by omega)
    exact ⟨hW.lt, obj_cell hW.obj rfl, obj_free hW.obj 3, g, cap, obj_cell hW.obj rfl, hW.entry hlt rfl⟩
  have hset : ∀ (W : World) (P' : Nat → Prop), RB P' W rb { b with many := b.many + 1 } → (∀ j, W.heap.size ≤ j → P' j) → Calls Tryd.prog 52 #[.pointer (some ⟨rb, 0, none⟩), .int .i64 (i : Int), ({ b.l[i] with st := 2, nth := (b.many : Int) + 1 } : En).rval] W fun e w' => e = .returned (.tuple #[]) ∧ RB P' w' rb { b with l := b.l.set i { b.l[i] with st := 2, nth := (b.many : Int) + 1 }, many := b.many + 1 } ∧ Kp P' W w' := fun W P' hW hf' =>
    rset_at hW i hlt _ _ rfl hlen hf'
  have hmor : ∀ W, RB P W rb b → w.heap.size ≤ W.heap.size → Kp P w W → ∀ o, RB P ((W.setCell ⟨rb, 3, none⟩ (.int .i64 ((b.many : Int) + 1))).alloc o) rb { b with many := b.many + 1 } ∧ (∀ j, ((W.setCell ⟨rb, 3, none⟩ (.int .i64 ((b.many : Int) + 1))).alloc o).heap.size ≤ j → P j) ∧ Kp P w ((W.setCell ⟨rb, 3, none⟩ (.int .i64 ((b.many : Int) + 1))).alloc o) := fun W ⟨v, hW⟩ hs hK o =>
    ⟨⟨v, (hW.more (b.many + 1)).below ((Below.refl _ _).alloc (Nat.le_refl _) _)⟩, fun j hj => hf j (by simp at hj; omega), (hK.setCell (.inl hW.pg) _).alloc o⟩
  generalize b.l[i] = x at *
  have n0 : (x.st != 1) = false := by simp [hs1]
  have q1 : (x.d.a == d.a) = false := by simpa using hna
  have hdm : x.d.a = d.b ∧ x.d.b = d.a ∧ x.d.sc = d.bc ∧ x.d.bc = d.sc ∧ x.d.s = d.t ∧ x.d.t = d.s := by rw [← hmir]; exact ⟨rfl, rfl, rfl, rfl, rfl, rfl⟩
  have n2 : (x.d.a != d.b) = false := by simpa using hdm.1
  have n3 : (x.d.b != d.a) = false := by simpa using hdm.2.1
  have n4 : (x.d.sc != d.bc) = false := by simpa using hdm.2.2.1
  have n5 : (x.d.bc != d.sc) = false := by simpa using hdm.2.2.2.1
  have n6 : (x.d.s != d.t) = false := by simpa using hdm.2.2.2.2.1
  have n7 : (x.d.t != d.s) = false := by simpa using hdm.2.2.2.2.2
  clear hdm hs1 hna hidx hm hmir
  unfold Dl.val at *
  unfold Dl.obj at *
  replace hset := Lib.hid hset
  replace hmor := Lib.hid hmor
  replace h1 := Lib.hid h1
  replace h := Lib.hid h
  replace hb0 := Lib.hid hb0
  replace cm := Lib.hid cm
  replace ca := Lib.hid ca
  replace hD := Lib.hid hD
  replace hc := Lib.hid hc
  replace ha := Lib.hid ha
  replace hlen := Lib.hid hlen
  replace hmany := Lib.hid hmany
  generalize b.l.length = n at *
  go_enter Tryd.func24, Tryd.ntmps24
  go_wp2_with (first | (go_at_call 43; (with_reducible refine cm.out.mono ?_); rintro e w2 ⟨rfl, hb2⟩; have hR2 := Lib.hid (below_rb h1.out hb2); have hlw : w.heap.size < w2.heap.size := Nat.lt_of_lt_of_le (by simp) hb2.size; obtain ⟨j0, j1, j2, j3, j4, j5, j6⟩ := hD.out w2 hb2; obtain ⟨hrl, m3, mf3, g, cap, c2, e0, e1, e2, e3, e4, e5, e6, e7, e8, e9, e10⟩ := hc.out w2 hR2.out; replace hb2 := Lib.hid hb2) | (go_at_call 28; (with_reducible refine (ca.out _ hR2.out).mono ?_); rintro e w3 ⟨rfl, rfl⟩) | (go_at_call 52; obtain ⟨hA, hB, hC⟩ := hmor.out _ hR2.out (Nat.le_of_lt hlw) ((Kp.of_below hb0.out).trans (Kp.of_below hb2.out)) (.cells #[.int .i64 x.d.id, .int .i64 x.d.a, .int .i64 x.d.b, .int .i64 x.d.sc, .int .i64 x.d.bc, .int .i64 x.d.s, .int .i64 x.d.t, .int .i64 2, .bool x.byA, .bool x.byB, .int .i64 ((b.many : Int) + 1)] 61); refine (hset.out _ P hA hB).mono ?_; rintro e w4 ⟨rfl, hR4, hK4⟩; replace hC := Lib.hid (hC.trans hK4); replace hR4 := Lib.hid hR4; clear hA hB hK4))
  go_ret2
  exact ⟨rfl, hR4.out, hC.out⟩
end
end Go.Proofs.YtflbggehgjllcaaDoor
