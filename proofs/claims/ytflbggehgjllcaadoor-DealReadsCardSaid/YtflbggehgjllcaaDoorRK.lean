/- The contract of the reference's Submit: of an Id that is known. -/
import Derived.Test.YtflbggehgjllcaaDoorRJ
namespace Go.Proofs.YtflbggehgjllcaaDoor
open Go.RowKit
set_option linter.unusedVariables false
section
variable {P : Nat → Prop} {w : World} {rb : Nat} {b : Bk} {v : Value}
set_option maxHeartbeats 4000000 in
set_option maxRecDepth 100000 in
theorem rsub_no (h : RB P w rb b) (d : Dl) (hm : mayB d b.mem b.cur = true) {i : Nat} (ha : atL b.l d.id = some i) (hlen : b.l.length ≤ 1000)
    (hno : (b.sub d).2 = b ∧ ((b.sub d).1 = (false, 6) ∨ (b.sub d).1 = (false, 12))) :
    Calls Tryd.prog 24 #[.pointer (some ⟨rb, 0, none⟩), d.val] w fun e w' => e = .returned (.tuple #[.bool (b.sub d).1.1, .int .i64 (b.sub d).1.2]) ∧ RB P w' rb (b.sub d).2 ∧ Below w.heap.size w w' := by
  obtain ⟨hlt, hidx⟩ := atL_some ha
  have hidq := Lib.hid hidx
  clear hidx
  have hsub : b.sub d = (if (b.l[i]).st ≠ 1 ∨ (b.l[i]).d.a = d.a then ((false, 6), b) else if d ≠ (b.l[i]).d.mir then ((false, 12), b) else ((true, 0), { b with l := b.l.set i { b.l[i] with st := 2, nth := (b.many : Int) + 1 }, many := b.many + 1 })) := by
    unfold Bk.sub; rw [if_neg (by rw [hm]; simp), ha]; dsimp only; rw [getD_at hlt]
  have hb0 : Below w.heap.size w (w.alloc d.obj) := (Below.refl _ _).alloc (Nat.le_refl _) _
  have h1 := below_rb h hb0
  have cm := may_any d b.mem b.cur rb (w.alloc d.obj) (rb_head h1).1 (rb_head h1).2
  rw [hm] at cm
  have ca : ∀ W, RB P W rb b → Calls Tryd.prog 28 #[.pointer (some ⟨rb, 0, none⟩), .int .i64 d.id] W fun e w' => e = .returned (.int .i64 (i : Int)) ∧ W = w' := fun W hW => by
    have := at_any hW d.id hlen
    rwa [ha] at this
  have hD := fun w2 => dbox (w := w) (w2 := w2) (d := d)
  obtain ⟨k0, k1, k2, k3, k4, k5, k6⟩ := dbox (Below.refl (w.alloc d.obj).heap.size (w.alloc d.obj))
  have hiz : (0 : Int) ≤ (i : Int) := by omega
  have hin : (i : Int) < (b.l.length : Int) := by omega
  have hc : ∀ W, RB P W rb b → ∃ g cap, W.cell? ⟨rb, 2, none⟩ = some (.slice (some ⟨g, 0, none⟩) b.l.length cap) ∧ W.cell? ⟨g, i * 11, none⟩ = some (.int .i64 (b.l[i]).d.id) ∧ W.cell? ⟨g, i * 11 + 1, none⟩ = some (.int .i64 (b.l[i]).d.a) ∧ W.cell? ⟨g, i * 11 + 2, none⟩ = some (.int .i64 (b.l[i]).d.b) ∧ W.cell? ⟨g, i * 11 + 3, none⟩ = some (.int .i64 (b.l[i]).d.sc) ∧ W.cell? ⟨g, i * 11 + 4, none⟩ = some (.int .i64 (b.l[i]).d.bc) ∧ W.cell? ⟨g, i * 11 + 5, none⟩ = some (.int .i64 (b.l[i]).d.s) ∧ W.cell? ⟨g, i * 11 + 6, none⟩ = some (.int .i64 (b.l[i]).d.t) ∧ W.cell? ⟨g, i * 11 + 7, none⟩ = some (.int .i64 (b.l[i]).st) ∧ W.cell? ⟨g, i * 11 + 8, none⟩ = some (.bool (b.l[i]).byA) ∧ W.cell? ⟨g, i * 11 + 9, none⟩ = some (.bool (b.l[i]).byB) ∧ W.cell? ⟨g, i * 11 + 10, none⟩ = some (.int .i64 (b.l[i]).nth) := fun W ⟨v, hW⟩ => by
    obtain ⟨g, cap, cur, rfl, -⟩ := orow_some hW.row (by omega)
    exact ⟨g, cap, obj_cell hW.obj rfl, hW.entry hlt rfl⟩
  obtain ⟨hs2, hs1⟩ := hno
  rw [hs2]
  generalize hr : (b.sub d).1 = r at *
  generalize b.l[i] = x at *
  replace hr : (b.sub d).1 = r := hr
  rw [hsub] at hr hs2
  clear hsub hm
  unfold Dl.val at *
  unfold Dl.obj at *
  replace h1 := Lib.hid h1
  replace h := Lib.hid h
  replace hb0 := Lib.hid hb0
  replace cm := Lib.hid cm
  replace ca := Lib.hid ca
  replace hD := Lib.hid hD
  replace hc := Lib.hid hc
  replace ha := Lib.hid ha
  replace hlen := Lib.hid hlen
  replace hs2 := Lib.hid hs2
  generalize b.l.length = n at *
  by_cases p0 : x.st = 1
  rotate_left
  · have q0 : (x.st == 1) = false := by simpa using p0
    have n0 : (x.st != 1) = true := by simp [bne, q0]
    have hrr : Hid (r = (false, 6)) := Lib.hid (by rw [← hr, if_pos (.inl p0)])
    clear hr hs1
    replace p0 := Lib.hid p0
    go_enter Tryd.func24, Tryd.ntmps24
    go_wp2_with (first | (go_at_call 43; (with_reducible refine cm.out.mono ?_); rintro e w2 ⟨rfl, hb2⟩; have hR2 := Lib.hid (below_rb h1.out hb2); have hlw : w.heap.size < w2.heap.size := Nat.lt_of_lt_of_le (by simp) hb2.size; obtain ⟨j0, j1, j2, j3, j4, j5, j6⟩ := hD.out w2 hb2; obtain ⟨g, cap, c2, e0, e1, e2, e3, e4, e5, e6, e7, e8, e9, e10⟩ := hc.out w2 hR2.out; replace hb2 := Lib.hid hb2) | (go_at_call 28; (with_reducible refine (ca.out _ hR2.out).mono ?_); rintro e w3 ⟨rfl, rfl⟩))
    go_ret2
    have hbx := (Below.refl w2.heap.size w2).alloc (Nat.le_refl _) (.cells #[.int .i64 x.d.id, .int .i64 x.d.a, .int .i64 x.d.b, .int .i64 x.d.sc, .int .i64 x.d.bc, .int .i64 x.d.s, .int .i64 x.d.t, .int .i64 x.st, .bool x.byA, .bool x.byB, .int .i64 x.nth] 61)
    exact ⟨hrr.out ▸ rfl, below_rb hR2.out hbx, hb0.out.trans ((hb2.out.trans (hbx.mono hb2.out.size)).mono hb0.out.size)⟩
  have q0 : (x.st == 1) = true := by simpa using p0
  have n0 : (x.st != 1) = false := by simp [bne, q0]
  by_cases p1 : x.d.a = d.a
  · have q1 : (x.d.a == d.a) = true := by simpa using p1
    have hrr : Hid (r = (false, 6)) := Lib.hid (by rw [← hr, if_pos (.inr p1)])
    clear hr hs1
    replace p0 := Lib.hid p0
    replace p1 := Lib.hid p1
    go_enter Tryd.func24, Tryd.ntmps24
    go_wp2_with (first | (go_at_call 43; (with_reducible refine cm.out.mono ?_); rintro e w2 ⟨rfl, hb2⟩; have hR2 := Lib.hid (below_rb h1.out hb2); have hlw : w.heap.size < w2.heap.size := Nat.lt_of_lt_of_le (by simp) hb2.size; obtain ⟨j0, j1, j2, j3, j4, j5, j6⟩ := hD.out w2 hb2; obtain ⟨g, cap, c2, e0, e1, e2, e3, e4, e5, e6, e7, e8, e9, e10⟩ := hc.out w2 hR2.out; replace hb2 := Lib.hid hb2) | (go_at_call 28; (with_reducible refine (ca.out _ hR2.out).mono ?_); rintro e w3 ⟨rfl, rfl⟩))
    go_ret2
    have hbx := (Below.refl w2.heap.size w2).alloc (Nat.le_refl _) (.cells #[.int .i64 x.d.id, .int .i64 x.d.a, .int .i64 x.d.b, .int .i64 x.d.sc, .int .i64 x.d.bc, .int .i64 x.d.s, .int .i64 x.d.t, .int .i64 x.st, .bool x.byA, .bool x.byB, .int .i64 x.nth] 61)
    exact ⟨hrr.out ▸ rfl, below_rb hR2.out hbx, hb0.out.trans ((hb2.out.trans (hbx.mono hb2.out.size)).mono hb0.out.size)⟩
  have q1 : (x.d.a == d.a) = false := by simpa using p1
  rw [if_neg (by rintro (h | h); exact h p0; exact p1 h)] at hr
  replace p0 := Lib.hid p0
  replace p1 := Lib.hid p1
  by_cases m0 : x.d.a = d.b
  rotate_left
  · have n2 : (x.d.a != d.b) = true := by simpa using m0
    have hrr : Hid (r = (false, 12)) := Lib.hid (by rw [← hr, if_pos (by intro e; exact m0 (by rw [e]; rfl))])
    clear hr hs1
    replace m0 := Lib.hid m0
    go_enter Tryd.func24, Tryd.ntmps24
    go_wp2_with (first | (go_at_call 43; (with_reducible refine cm.out.mono ?_); rintro e w2 ⟨rfl, hb2⟩; have hR2 := Lib.hid (below_rb h1.out hb2); have hlw : w.heap.size < w2.heap.size := Nat.lt_of_lt_of_le (by simp) hb2.size; obtain ⟨j0, j1, j2, j3, j4, j5, j6⟩ := hD.out w2 hb2; obtain ⟨g, cap, c2, e0, e1, e2, e3, e4, e5, e6, e7, e8, e9, e10⟩ := hc.out w2 hR2.out; replace hb2 := Lib.hid hb2) | (go_at_call 28; (with_reducible refine (ca.out _ hR2.out).mono ?_); rintro e w3 ⟨rfl, rfl⟩))
    go_ret2
    have hbx := (Below.refl w2.heap.size w2).alloc (Nat.le_refl _) (.cells #[.int .i64 x.d.id, .int .i64 x.d.a, .int .i64 x.d.b, .int .i64 x.d.sc, .int .i64 x.d.bc, .int .i64 x.d.s, .int .i64 x.d.t, .int .i64 x.st, .bool x.byA, .bool x.byB, .int .i64 x.nth] 61)
    exact ⟨hrr.out ▸ rfl, below_rb hR2.out hbx, hb0.out.trans ((hb2.out.trans (hbx.mono hb2.out.size)).mono hb0.out.size)⟩
  have n2 : (x.d.a != d.b) = false := by simpa using m0
  replace m0 := Lib.hid m0
  by_cases m1 : x.d.b = d.a
  rotate_left
  · have n3 : (x.d.b != d.a) = true := by simpa using m1
    have hrr : Hid (r = (false, 12)) := Lib.hid (by rw [← hr, if_pos (by intro e; exact m1 (by rw [e]; rfl))])
    clear hr hs1
    replace m1 := Lib.hid m1
    go_enter Tryd.func24, Tryd.ntmps24
    go_wp2_with (first | (go_at_call 43; (with_reducible refine cm.out.mono ?_); rintro e w2 ⟨rfl, hb2⟩; have hR2 := Lib.hid (below_rb h1.out hb2); have hlw : w.heap.size < w2.heap.size := Nat.lt_of_lt_of_le (by simp) hb2.size; obtain ⟨j0, j1, j2, j3, j4, j5, j6⟩ := hD.out w2 hb2; obtain ⟨g, cap, c2, e0, e1, e2, e3, e4, e5, e6, e7, e8, e9, e10⟩ := hc.out w2 hR2.out; replace hb2 := Lib.hid hb2) | (go_at_call 28; (with_reducible refine (ca.out _ hR2.out).mono ?_); rintro e w3 ⟨rfl, rfl⟩))
    go_ret2
    have hbx := (Below.refl w2.heap.size w2).alloc (Nat.le_refl _) (.cells #[.int .i64 x.d.id, .int .i64 x.d.a, .int .i64 x.d.b, .int .i64 x.d.sc, .int .i64 x.d.bc, .int .i64 x.d.s, .int .i64 x.d.t, .int .i64 x.st, .bool x.byA, .bool x.byB, .int .i64 x.nth] 61)
    exact ⟨hrr.out ▸ rfl, below_rb hR2.out hbx, hb0.out.trans ((hb2.out.trans (hbx.mono hb2.out.size)).mono hb0.out.size)⟩
  have n3 : (x.d.b != d.a) = false := by simpa using m1
  replace m1 := Lib.hid m1
  by_cases m2 : x.d.sc = d.bc
  rotate_left
  · have n4 : (x.d.sc != d.bc) = true := by simpa using m2
    have hrr : Hid (r = (false, 12)) := Lib.hid (by rw [← hr, if_pos (by intro e; exact m2 (by rw [e]; rfl))])
    clear hr hs1
    replace m2 := Lib.hid m2
    go_enter Tryd.func24, Tryd.ntmps24
    go_wp2_with (first | (go_at_call 43; (with_reducible refine cm.out.mono ?_); rintro e w2 ⟨rfl, hb2⟩; have hR2 := Lib.hid (below_rb h1.out hb2); have hlw : w.heap.size < w2.heap.size := Nat.lt_of_lt_of_le (by simp) hb2.size; obtain ⟨j0, j1, j2, j3, j4, j5, j6⟩ := hD.out w2 hb2; obtain ⟨g, cap, c2, e0, e1, e2, e3, e4, e5, e6, e7, e8, e9, e10⟩ := hc.out w2 hR2.out; replace hb2 := Lib.hid hb2) | (go_at_call 28; (with_reducible refine (ca.out _ hR2.out).mono ?_); rintro e w3 ⟨rfl, rfl⟩))
    go_ret2
    have hbx := (Below.refl w2.heap.size w2).alloc (Nat.le_refl _) (.cells #[.int .i64 x.d.id, .int .i64 x.d.a, .int .i64 x.d.b, .int .i64 x.d.sc, .int .i64 x.d.bc, .int .i64 x.d.s, .int .i64 x.d.t, .int .i64 x.st, .bool x.byA, .bool x.byB, .int .i64 x.nth] 61)
    exact ⟨hrr.out ▸ rfl, below_rb hR2.out hbx, hb0.out.trans ((hb2.out.trans (hbx.mono hb2.out.size)).mono hb0.out.size)⟩
  have n4 : (x.d.sc != d.bc) = false := by simpa using m2
  replace m2 := Lib.hid m2
  by_cases m3 : x.d.bc = d.sc
  rotate_left
  · have n5 : (x.d.bc != d.sc) = true := by simpa using m3
    have hrr : Hid (r = (false, 12)) := Lib.hid (by rw [← hr, if_pos (by intro e; exact m3 (by rw [e]; rfl))])
    clear hr hs1
    replace m3 := Lib.hid m3
    go_enter Tryd.func24, Tryd.ntmps24
    go_wp2_with (first | (go_at_call 43; (with_reducible refine cm.out.mono ?_); rintro e w2 ⟨rfl, hb2⟩; have hR2 := Lib.hid (below_rb h1.out hb2); have hlw : w.heap.size < w2.heap.size := Nat.lt_of_lt_of_le (by simp) hb2.size; obtain ⟨j0, j1, j2, j3, j4, j5, j6⟩ := hD.out w2 hb2; obtain ⟨g, cap, c2, e0, e1, e2, e3, e4, e5, e6, e7, e8, e9, e10⟩ := hc.out w2 hR2.out; replace hb2 := Lib.hid hb2) | (go_at_call 28; (with_reducible refine (ca.out _ hR2.out).mono ?_); rintro e w3 ⟨rfl, rfl⟩))
    go_ret2
    have hbx := (Below.refl w2.heap.size w2).alloc (Nat.le_refl _) (.cells #[.int .i64 x.d.id, .int .i64 x.d.a, .int .i64 x.d.b, .int .i64 x.d.sc, .int .i64 x.d.bc, .int .i64 x.d.s, .int .i64 x.d.t, .int .i64 x.st, .bool x.byA, .bool x.byB, .int .i64 x.nth] 61)
    exact ⟨hrr.out ▸ rfl, below_rb hR2.out hbx, hb0.out.trans ((hb2.out.trans (hbx.mono hb2.out.size)).mono hb0.out.size)⟩
  have n5 : (x.d.bc != d.sc) = false := by simpa using m3
  replace m3 := Lib.hid m3
  by_cases m4 : x.d.s = d.t
  rotate_left
  · have n6 : (x.d.s != d.t) = true := by simpa using m4
    have hrr : Hid (r = (false, 12)) := Lib.hid (by rw [← hr, if_pos (by intro e; exact m4 (by rw [e]; rfl))])
    clear hr hs1
    replace m4 := Lib.hid m4
    go_enter Tryd.func24, Tryd.ntmps24
    go_wp2_with (first | (go_at_call 43; (with_reducible refine cm.out.mono ?_); rintro e w2 ⟨rfl, hb2⟩; have hR2 := Lib.hid (below_rb h1.out hb2); have hlw : w.heap.size < w2.heap.size := Nat.lt_of_lt_of_le (by simp) hb2.size; obtain ⟨j0, j1, j2, j3, j4, j5, j6⟩ := hD.out w2 hb2; obtain ⟨g, cap, c2, e0, e1, e2, e3, e4, e5, e6, e7, e8, e9, e10⟩ := hc.out w2 hR2.out; replace hb2 := Lib.hid hb2) | (go_at_call 28; (with_reducible refine (ca.out _ hR2.out).mono ?_); rintro e w3 ⟨rfl, rfl⟩))
    go_ret2
    have hbx := (Below.refl w2.heap.size w2).alloc (Nat.le_refl _) (.cells #[.int .i64 x.d.id, .int .i64 x.d.a, .int .i64 x.d.b, .int .i64 x.d.sc, .int .i64 x.d.bc, .int .i64 x.d.s, .int .i64 x.d.t, .int .i64 x.st, .bool x.byA, .bool x.byB, .int .i64 x.nth] 61)
    exact ⟨hrr.out ▸ rfl, below_rb hR2.out hbx, hb0.out.trans ((hb2.out.trans (hbx.mono hb2.out.size)).mono hb0.out.size)⟩
  have n6 : (x.d.s != d.t) = false := by simpa using m4
  replace m4 := Lib.hid m4
  by_cases m5 : x.d.t = d.s
  rotate_left
  · have n7 : (x.d.t != d.s) = true := by simpa using m5
    have hrr : Hid (r = (false, 12)) := Lib.hid (by rw [← hr, if_pos (by intro e; exact m5 (by rw [e]; rfl))])
    clear hr hs1
    replace m5 := Lib.hid m5
    go_enter Tryd.func24, Tryd.ntmps24
    go_wp2_with (first | (go_at_call 43; (with_reducible refine cm.out.mono ?_); rintro e w2 ⟨rfl, hb2⟩; have hR2 := Lib.hid (below_rb h1.out hb2); have hlw : w.heap.size < w2.heap.size := Nat.lt_of_lt_of_le (by simp) hb2.size; obtain ⟨j0, j1, j2, j3, j4, j5, j6⟩ := hD.out w2 hb2; obtain ⟨g, cap, c2, e0, e1, e2, e3, e4, e5, e6, e7, e8, e9, e10⟩ := hc.out w2 hR2.out; replace hb2 := Lib.hid hb2) | (go_at_call 28; (with_reducible refine (ca.out _ hR2.out).mono ?_); rintro e w3 ⟨rfl, rfl⟩))
    go_ret2
    have hbx := (Below.refl w2.heap.size w2).alloc (Nat.le_refl _) (.cells #[.int .i64 x.d.id, .int .i64 x.d.a, .int .i64 x.d.b, .int .i64 x.d.sc, .int .i64 x.d.bc, .int .i64 x.d.s, .int .i64 x.d.t, .int .i64 x.st, .bool x.byA, .bool x.byB, .int .i64 x.nth] 61)
    exact ⟨hrr.out ▸ rfl, below_rb hR2.out hbx, hb0.out.trans ((hb2.out.trans (hbx.mono hb2.out.size)).mono hb0.out.size)⟩
  have n7 : (x.d.t != d.s) = false := by simpa using m5
  replace m5 := Lib.hid m5
  exfalso
  have hd : d = x.d.mir := by
    have a0 := m0.out; have a1 := m1.out; have a2 := m2.out; have a3 := m3.out; have a4 := m4.out; have a5 := m5.out
    have a6 := hidq.out
    obtain ⟨i1, i2, i3, i4, i5, i6, i7⟩ := d
    unfold Dl.mir
    simp only [Dl.mk.injEq]
    dsimp only at *
    omega
  rw [if_neg (fun hne => hne hd)] at hr
  rcases hs1 with h | h <;> rw [← hr] at h <;> simp at h
end
end Go.Proofs.YtflbggehgjllcaaDoor
