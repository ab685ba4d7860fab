/- The contract of the reference's Submit: of one that is matched.
  The contract of the reference's Submit: of a new Id.
  The contract of the reference's Submit: of an Id that is known.
  The contract of the reference's Submit. -/
import Derived.Test.YthocnlalahknjaaGreatQRa
import Derived.Test.YthocnlalahknjaaGreatQDa
namespace Go.Proofs.YthocnlalahknjaaGreat.Dd
open Go.RowKit
set_option linter.unusedVariables false
section
variable {P : Nat → Prop} {w : World} {rb : Nat} {b : Bk} {v : Value}
theorem RBv.more (h : RBv P w rb b v) (n : Nat) : RBv P (w.setCell ⟨rb, 3, none⟩ (.int .i64 (n : Nat))) rb { b with many := n } v :=
  ⟨obj_set h.obj 3 _, orow_kept h.row fun g hg => obj_other _ fun e => h.nv (by rw [hg]; exact congrArg some e), h.pg, h.pv⟩
set_option maxHeartbeats 4000000 in
set_option maxRecDepth 100000 in
theorem rsub_yes (h : RB P w rb b) (d : Dl) (hm : mayB d b.mem b.cur = true) {i : Nat} (ha : atL b.l d.id = some i) (hlen : b.l.length ≤ 1000) (hmany : b.many ≤ 1000) (hf : ∀ j, w.heap.size ≤ j → P j)
    (hs1 : (b.l[i]?.map (·.st)) = some 1) (hmir : (b.l[i]?.map (·.d.mir)) = some d) (hna : (b.l[i]?.map (·.d.a)) ≠ some d.a) :
    Calls Tryz.prog 24 #[.pointer (some ⟨rb, 0, none⟩), d.val] w fun e w' => e = .returned (.tuple #[.bool true, .int .i64 0]) ∧ RB P w' rb { b with l := b.l.set i { b.l.getD i default with st := 2, nth := (b.many : Int) + 1 }, many := b.many + 1 } ∧ Kp P w w' := by
  obtain ⟨hlt, hidx⟩ := atL_some ha
  rw [List.getElem?_eq_getElem hlt] at hs1 hmir hna
  simp only [Option.map_some, Option.some.injEq] at hs1 hmir
  have hna : (b.l[i]).d.a ≠ d.a := fun e => hna (by simp [e])
  rw [getD_at hlt]
  have hb0 : Below w.heap.size w (w.alloc d.obj) := (Below.refl _ _).alloc (Nat.le_refl _) _
  have h1 := below_rb h hb0
  have cm := may_any d b.mem b.cur rb (w.alloc d.obj) (rb_head h1).1 (rb_head h1).2
  rw [hm] at cm
  have ca : ∀ W, RB P W rb b → Calls Tryz.prog 51 #[.pointer (some ⟨rb, 0, none⟩), .int .i64 d.id] W fun e w' => e = .returned (.int .i64 (i : Int)) ∧ W = w' := fun W hW => by
    have := at_any hW d.id hlen
    rwa [ha] at this
  have hD := fun w2 => dbox (w := w) (w2 := w2) (d := d)
  obtain ⟨k0, k1, k2, k3, k4, k5, k6⟩ := dbox (Below.refl (w.alloc d.obj).heap.size (w.alloc d.obj))
  have hiz : (0 : Int) ≤ (i : Int) := by omega
  have hin : (i : Int) < (b.l.length : Int) := by omega
  have hmz : (0 : Int) ≤ (b.many : Int) := by omega
  have hmz2 : (b.many : Int) ≤ 1000 := by omega
  have hc : ∀ W, RB P W rb b → rb < W.heap.size ∧ W.cell? ⟨rb, 3, none⟩ = some (.int .i64 (b.many : Nat)) ∧ W.frozen? ⟨rb, 3, none⟩ = false ∧ ∃ g cap, W.cell? ⟨rb, 2, none⟩ = some (.slice (some ⟨g, 0, none⟩) b.l.length cap) ∧ W.cell? ⟨g, i * 11, none⟩ = some (.int .i64 (b.l[i]).d.id) ∧ W.cell? ⟨g, i * 11 + 1, none⟩ = some (.int .i64 (b.l[i]).d.a) ∧ W.cell? ⟨g, i * 11 + 2, none⟩ = some (.int .i64 (b.l[i]).d.b) ∧ W.cell? ⟨g, i * 11 + 3, none⟩ = some (.int .i64 (b.l[i]).d.sc) ∧ W.cell? ⟨g, i * 11 + 4, none⟩ = some (.int .i64 (b.l[i]).d.bc) ∧ W.cell? ⟨g, i * 11 + 5, none⟩ = some (.int .i64 (b.l[i]).d.s) ∧ W.cell? ⟨g, i * 11 + 6, none⟩ = some (.int .i64 (b.l[i]).d.t) ∧ W.cell? ⟨g, i * 11 + 7, none⟩ = some (.int .i64 (b.l[i]).st) ∧ W.cell? ⟨g, i * 11 + 8, none⟩ = some (.bool (b.l[i]).byA) ∧ W.cell? ⟨g, i * 11 + 9, none⟩ = some (.bool (b.l[i]).byB) ∧ W.cell? ⟨g, i * 11 + 10, none⟩ = some (.int .i64 (b.l[i]).nth) := fun W ⟨v, hW⟩ => by
    obtain ⟨g, cap, cur, rfl, -⟩ := orow_some hW.row (by omega)
    exact ⟨hW.lt, obj_cell hW.obj rfl, obj_free hW.obj 3, g, cap, obj_cell hW.obj rfl, hW.entry hlt rfl⟩
  have hset : ∀ (W : World) (P' : Nat → Prop), RB P' W rb { b with many := b.many + 1 } → (∀ j, W.heap.size ≤ j → P' j) → Calls Tryz.prog 52 #[.pointer (some ⟨rb, 0, none⟩), .int .i64 (i : Int), ({ b.l[i] with st := 2, nth := (b.many : Int) + 1 } : En).rval] W fun e w' => e = .returned (.tuple #[]) ∧ RB P' w' rb { b with l := b.l.set i { b.l[i] with st := 2, nth := (b.many : Int) + 1 }, many := b.many + 1 } ∧ Kp P' W w' := fun W P' hW hf' =>
    rset_at hW i hlt _ _ rfl hlen hf'
  have hmor : ∀ W, RB P W rb b → w.heap.size ≤ W.heap.size → Kp P w W → ∀ o, RB P ((W.setCell ⟨rb, 3, none⟩ (.int .i64 ((b.many : Int) + 1))).alloc o) rb { b with many := b.many + 1 } ∧ (∀ j, ((W.setCell ⟨rb, 3, none⟩ (.int .i64 ((b.many : Int) + 1))).alloc o).heap.size ≤ j → P j) ∧ Kp P w ((W.setCell ⟨rb, 3, none⟩ (.int .i64 ((b.many : Int) + 1))).alloc o) := fun W ⟨v, hW⟩ hs hK o =>
    ⟨⟨v, (hW.more (b.many + 1)).below ((Below.refl _ _).alloc (Nat.le_refl _) _)⟩, fun j hj => hf j (by simp at hj; omega), (hK.setCell (.inl hW.pg) _).alloc o⟩
  generalize b.l[i] = x at *
  have n0 : (x.st != 1) = false := by simp [hs1]
  have q1 : (x.d.a == d.a) = false := by simpa using hna
  have hdm : x.d.a = d.b ∧ x.d.b = d.a ∧ x.d.sc = d.bc ∧ x.d.bc = d.sc ∧ x.d.s = d.t ∧ x.d.t = d.s := by rw [← hmir]; exact ⟨rfl, rfl, rfl, rfl, rfl, rfl⟩
  have n2 : (x.d.a != d.b) = false := by simpa using hdm.1
  have n3 : (x.d.b != d.a) = false := by simpa using hdm.2.1
  have n4 : (x.d.sc != d.bc) = false := by simpa using hdm.2.2.1
  have n5 : (x.d.bc != d.sc) = false := by simpa using hdm.2.2.2.1
  have n6 : (x.d.s != d.t) = false := by simpa using hdm.2.2.2.2.1
  have n7 : (x.d.t != d.s) = false := by simpa using hdm.2.2.2.2.2
  clear hdm hs1 hna hidx hm hmir
  unfold Dl.val at *
  unfold Dl.obj at *
  replace hset := Lib.hid hset
  replace hmor := Lib.hid hmor
  replace h1 := Lib.hid h1
  replace h := Lib.hid h
  replace hb0 := Lib.hid hb0
  replace cm := Lib.hid cm
  replace ca := Lib.hid ca
  replace hD := Lib.hid hD
  replace hc := Lib.hid hc
  replace ha := Lib.hid ha
  replace hlen := Lib.hid hlen
  replace hmany := Lib.hid hmany
  generalize b.l.length = n at *
  go_enter Tryz.func24, Tryz.ntmps24
  go_wp2_with (first | (go_at_call 50; (with_reducible refine cm.out.mono ?_); rintro e w2 ⟨rfl, hb2⟩; have hR2 := Lib.hid (below_rb h1.out hb2); have hlw : w.heap.size < w2.heap.size := Nat.lt_of_lt_of_le (by simp) hb2.size; obtain ⟨j0, j1, j2, j3, j4, j5, j6⟩ := hD.out w2 hb2; obtain ⟨hrl, m3, mf3, g, cap, c2, e0, e1, e2, e3, e4, e5, e6, e7, e8, e9, e10⟩ := hc.out w2 hR2.out; replace hb2 := Lib.hid hb2) | (go_at_call 51; (with_reducible refine (ca.out _ hR2.out).mono ?_); rintro e w3 ⟨rfl, rfl⟩) | (go_at_call 52; obtain ⟨hA, hB, hC⟩ := hmor.out _ hR2.out (Nat.le_of_lt hlw) ((Kp.of_below hb0.out).trans (Kp.of_below hb2.out)) (.cells #[.int .i64 x.d.id, .int .i64 x.d.a, .int .i64 x.d.b, .int .i64 x.d.sc, .int .i64 x.d.bc, .int .i64 x.d.s, .int .i64 x.d.t, .int .i64 2, .bool x.byA, .bool x.byB, .int .i64 ((b.many : Int) + 1)] 77); refine (hset.out _ P hA hB).mono ?_; rintro e w4 ⟨rfl, hR4, hK4⟩; replace hC := Lib.hid (hC.trans hK4); replace hR4 := Lib.hid hR4; clear hA hB hK4))
  go_ret2
  exact ⟨rfl, hR4.out, hC.out⟩
end
end Go.Proofs.YthocnlalahknjaaGreat.Dd
namespace Go.Proofs.YthocnlalahknjaaGreat.Dd
open Go.RowKit
set_option linter.unusedVariables false
/-- append([]Entry{}, row...), whatever the row -/
theorem copyS_run (W : World) (s : Nat) (hs : W.heap[s]? = some (.cells #[] 77 (0, 0))) (v : Value) (l : List En) (hr : W.ownsRow 0 77 11 v l.length (cellsR l)) (h8 : l.length ≤ 1000) :
    ∃ v' w', (Builtin.append_ #[73, 73] 73 #[.slice (some ⟨s, 0, none⟩) 0 0, v]).run Tryz.prog W = .ok v' w' ∧ w'.ownsRow 0 77 11 v' l.length (cellsR l) ∧ (∀ g, v'.ownBlock = some g → g = s ∨ W.heap.size ≤ g) ∧ W.grownBy w' (some s) := by
  obtain ⟨i0, hi, hz0, hz1, hz2⟩ := info_parts info61
  have hown : W.ownsRow 0 77 11 (.slice (some ⟨s, 0, none⟩) 0 0) 0 [] := ⟨by simp, .inr ⟨s, 0, #[], rfl, Nat.zero_le _, hs, Nat.le_refl _, by unfold maxLen; omega, by simp, by simp⟩⟩
  rcases hr.2 with ⟨rfl, h0⟩ | ⟨g, cap, cur, rfl, _, hg, hn, hm, hsz, ht⟩
  · have hl : l = [] := List.eq_nil_of_length_eq_zero h0
    subst hl
    have hr2 := run_append_owned_none (P := Tryz.prog) W 0 73 73 77 i0 11 Tryz.underlying73 hi _ _ _ hown
    exact ⟨_, _, hr2, hown, fun g hg => .inl (by simp [Value.ownBlock] at hg; exact hg.symm), World.grownBy.refl _ _⟩
  · obtain ⟨v', w', h2, h3, h4, _⟩ := run_append_own (P := Tryz.prog) W 0 73 73 77 i0 _ 11 80 Tryz.underlying73 hi hz0 hz1 hz2 rfl (by decide) (.slice (some ⟨s, 0, none⟩) 0 0) 0 [] hown ⟨g, 0, none⟩ l.length cap (cellsR l) (cellsR_len l)
      (World.ownsRow.cells hr (g := g) rfl) (fun u hu => by unfold cellsR at hu; obtain ⟨x, _, hx⟩ := List.mem_flatMap.1 hu; exact x.rcs_one u hx) (by unfold maxLen; omega) (by omega) (Nat.zero_le _)
    rw [Nat.zero_add, List.nil_append] at h3
    refine ⟨v', w', h2, h3, fun g' hg' => ?_, h4⟩
    by_cases h0 : l.length = 0
    · have hr2 := run_append_room (P := Tryz.prog) W 73 73 77 i0 Tryz.underlying73 hi s 0 0 #[] hs ⟨g, 0, none⟩ l.length cap (cellsR l) (by rw [hz1]; exact cellsR_len l) (World.ownsRow.cells hr (g := g) rfl) (fun u hu => by unfold cellsR at hu; obtain ⟨x, _, hx⟩ := List.mem_flatMap.1 hu; exact x.rcs_one u hx) (by omega) (by rw [cellsR_len, h0]; simp)
      rw [h2] at hr2
      injection hr2 with e1 e2
      subst e1
      simp [Value.ownBlock] at hg'
      exact .inl hg'.symm
    · have hr2 := run_append_grow (P := Tryz.prog) W 73 73 77 i0 _ Tryz.underlying73 hi hz0 ⟨s, 0, none⟩ 0 0 [] (by simp) (fun j u hu => by simp at hu) ⟨g, 0, none⟩ l.length cap (cellsR l) (by rw [hz1]; exact cellsR_len l) (World.ownsRow.cells hr (g := g) rfl) (by omega) (by omega) (by rw [hz2]; exact growslice_fits (by omega) (by omega))
      rw [h2] at hr2
      injection hr2 with e1 e2
      subst e1
      simp [Value.ownBlock] at hg'
      exact .inr (by omega)
theorem add_nf {L : Nat → Bool} {n j : Nat} (h : add L n j = false) : L j = false := by
  unfold add at h
  exact (Bool.or_eq_false_iff.1 h).1
section
variable {P : Nat → Prop} {w : World} {rb : Nat} {b : Bk} {v : Value}
set_option maxHeartbeats 4000000 in
set_option maxRecDepth 100000 in
theorem rsub_new (h : RB P w rb b) (d : Dl) (hm : mayB d b.mem b.cur = true) (ha : atL b.l d.id = none) (hl : b.l.length < 200) (hlen : b.l.length ≤ 1000) (hf : ∀ j, w.heap.size ≤ j → P j) :
    Calls Tryz.prog 24 #[.pointer (some ⟨rb, 0, none⟩), d.val] w fun e w' => e = .returned (.tuple #[.bool false, .int .i64 0]) ∧ RB P w' rb { b with l := b.l ++ [⟨d, 1, 0, 0⟩] } ∧ Kp P w w' := by
  have hb0 : Below w.heap.size w (w.alloc d.obj) := (Below.refl _ _).alloc (Nat.le_refl _) _
  have h1 := below_rb h hb0
  have cm := may_any d b.mem b.cur rb (w.alloc d.obj) (rb_head h1).1 (rb_head h1).2
  rw [hm] at cm
  have ca : ∀ W, RB P W rb b → Calls Tryz.prog 51 #[.pointer (some ⟨rb, 0, none⟩), .int .i64 d.id] W fun e w' => e = .returned (.int .i64 (-1)) ∧ W = w' := fun W hW => by
    have := at_any hW d.id hlen
    rwa [ha] at this
  have hD := fun w2 => dbox (w := w) (w2 := w2) (d := d)
  obtain ⟨k0, k1, k2, k3, k4, k5, k6⟩ := dbox (Below.refl (w.alloc d.obj).heap.size (w.alloc d.obj))
  have hlz : ¬ (200 : Int) ≤ (b.l.length : Int) := by omega
  have hc : ∀ W, RB P W rb b → rb < W.heap.size ∧ ∃ p cap, RBv P W rb b (.slice p b.l.length cap) ∧ W.cell? ⟨rb, 2, none⟩ = some (.slice p b.l.length cap) := fun W ⟨v, hW⟩ => by
    obtain ⟨p, cap, rfl, -, -, -⟩ := orow_shape hW.row
    exact ⟨hW.lt, p, cap, hW, obj_cell hW.obj rfl⟩
  clear hm
  unfold Dl.val at *
  unfold Dl.obj at *
  replace h1 := Lib.hid h1
  replace h := Lib.hid h
  replace hb0 := Lib.hid hb0
  replace cm := Lib.hid cm
  replace ca := Lib.hid ca
  replace hD := Lib.hid hD
  replace hc := Lib.hid hc
  replace ha := Lib.hid ha
  replace hl := Lib.hid hl
  replace hlen := Lib.hid hlen
  obtain ⟨n, hn⟩ : ∃ n, n = b.l.length := ⟨_, rfl⟩
  rw [← hn] at hc hlz
  replace hn := Lib.hid hn
  go_enter Tryz.func24, Tryz.ntmps24
  go_upto_region 7 with (first | (go_at_call 50; (with_reducible refine cm.out.mono ?_); rintro e w2 ⟨rfl, hb2⟩; have hR2 := Lib.hid (below_rb h1.out hb2); have hlw : w.heap.size < w2.heap.size := Nat.lt_of_lt_of_le (by simp) hb2.size; obtain ⟨j0, j1, j2, j3, j4, j5, j6⟩ := hD.out w2 hb2; obtain ⟨hrl, p, cap, hRv, c2⟩ := hc.out w2 hR2.out; replace hRv := Lib.hid hRv; replace hb2 := Lib.hid hb2) | (go_at_call 51; (with_reducible refine (ca.out _ hR2.out).mono ?_); rintro e w3 ⟨rfl, rfl⟩))
  refine wp_region_closed (by kernel_rfl) (fun L az wz => ∃ v24 v25 v26 v27 v28 v29 v30 v31 v32 v33 v34 v35 v36 : Value, az = ({ tmps := (Value.pointer (some ⟨rb, 0, none⟩) :: Value.agg #[Value.int IntKind.i64 d.id, Value.int IntKind.i64 d.a, Value.int IntKind.i64 d.b, Value.int IntKind.i64 d.sc, Value.int IntKind.i64 d.bc, Value.int IntKind.i64 d.s, Value.int IntKind.i64 d.t] :: undef :: Value.pointer (some ⟨w.heap.size, 0, none⟩) :: Value.bool false :: Value.int IntKind.i64 0 :: Value.int IntKind.i64 (-1) :: undef :: Value.pointer (some ⟨rb, 0, none⟩) :: Value.agg #[Value.int IntKind.i64 d.id, Value.int IntKind.i64 d.a, Value.int IntKind.i64 d.b, Value.int IntKind.i64 d.sc, Value.int IntKind.i64 d.bc, Value.int IntKind.i64 d.s, Value.int IntKind.i64 d.t] :: Value.bool true :: Value.bool false :: Value.pointer (some ⟨rb, 0, none⟩) :: Value.pointer (some ⟨w.heap.size, 0, none⟩) :: Value.int IntKind.i64 d.id :: Value.int IntKind.i64 (-1) :: Value.int IntKind.i64 (-1) :: Value.bool true :: Value.pointer (some ⟨rb, 0, none⟩) :: Value.pointer (some ⟨rb, 0, none⟩) :: Value.pointer (some ⟨rb, 2, none⟩) :: Value.slice p n cap :: Value.int IntKind.i64 (n : Int) :: Value.bool (decide (200 ≤ (n : Int))) :: v24 :: v25 :: v26 :: v27 :: v28 :: v29 :: v30 :: v31 :: v32 :: v33 :: v34 :: v35 :: v36 :: undef :: undef :: undef :: undef :: undef :: undef :: undef :: undef :: undef :: undef :: undef :: undef :: undef :: undef :: undef :: undef :: undef :: undef :: undef :: undef :: undef :: undef :: undef :: undef :: undef :: undef :: undef :: undef :: undef :: undef :: undef :: undef :: undef :: undef :: undef :: undef :: undef :: undef :: undef :: undef :: undef :: undef :: undef :: undef :: undef :: undef :: undef :: undef :: undef :: undef :: undef :: undef :: undef :: undef :: undef :: undef :: undef :: undef :: undef :: undef :: undef :: undef :: undef :: undef :: undef :: undef :: undef :: undef :: undef :: undef :: undef :: undef :: undef :: undef :: undef :: undef :: undef :: undef :: undef :: undef :: undef :: []).toArray, defers := [] } : Act) ∧ (L 13 = false → Below w2.heap.size w2 wz) ∧ (L 1 = true → L 6 = false → ∃ s : Nat, v25 = .slice (some ⟨s, 0, none⟩) 0 0 ∧ wz.heap[s]? = some (.cells #[] 77 (0, 0)) ∧ w2.heap.size ≤ s) ∧ (L 9 = true → L 10 = false → ∃ e : Nat, v33 = .slice (some ⟨e, 0, none⟩) 1 1 ∧ wz.heap[e]? = some (.cells #[Value.int IntKind.i64 d.id, Value.int IntKind.i64 d.a, Value.int IntKind.i64 d.b, Value.int IntKind.i64 d.sc, Value.int IntKind.i64 d.bc, Value.int IntKind.i64 d.s, Value.int IntKind.i64 d.t, Value.int IntKind.i64 1, Value.bool false, Value.bool false, Value.int IntKind.i64 0] 77 (0, 0)) ∧ w2.heap.size ≤ e) ∧ (L 6 = true → L 10 = false → wz.ownsRow 0 77 11 v30 n (cellsR b.l) ∧ ∀ g, v30.ownBlock = some g → w2.heap.size ≤ g) ∧ (L 1 = true → L 6 = false → L 9 = true → v25.ownBlock ≠ v33.ownBlock) ∧ (L 6 = true → L 9 = true → L 10 = false → ∀ g, v30.ownBlock = some g → v33.ownBlock ≠ some g) ∧ (L 10 = true → L 13 = false → wz.ownsRow 0 77 11 v34 (n + 1) (cellsR b.l ++ [Value.int IntKind.i64 d.id, Value.int IntKind.i64 d.a, Value.int IntKind.i64 d.b, Value.int IntKind.i64 d.sc, Value.int IntKind.i64 d.bc, Value.int IntKind.i64 d.s, Value.int IntKind.i64 d.t, Value.int IntKind.i64 1, Value.bool false, Value.bool false, Value.int IntKind.i64 0]) ∧ ∀ g, v34.ownBlock = some g → w2.heap.size ≤ g) ∧ (L 13 = true → ∃ (w7 : World) (u : Value), Below w2.heap.size w2 w7 ∧ w7.ownsRow 0 77 11 u (n + 1) (cellsR b.l ++ [Value.int IntKind.i64 d.id, Value.int IntKind.i64 d.a, Value.int IntKind.i64 d.b, Value.int IntKind.i64 d.sc, Value.int IntKind.i64 d.bc, Value.int IntKind.i64 d.s, Value.int IntKind.i64 d.t, Value.int IntKind.i64 1, Value.bool false, Value.bool false, Value.int IntKind.i64 0]) ∧ (∀ g, u.ownBlock = some g → w2.heap.size ≤ g) ∧ wz = w7.setCell ⟨rb, 2, none⟩ u) ∧ (L 0 = true → v24 = Value.pointer (some ⟨rb, 0, none⟩)) ∧ (L 2 = true → v26 = Value.pointer (some ⟨rb, 0, none⟩)) ∧ (L 3 = true → v27 = Value.pointer (some ⟨rb, 0, none⟩)) ∧ (L 4 = true → v28 = Value.pointer (some ⟨rb, 2, none⟩)) ∧ (L 5 = true → v29 = Value.slice p n cap) ∧ (L 7 = true → v31 = Value.agg #[Value.int IntKind.i64 d.id, Value.int IntKind.i64 d.a, Value.int IntKind.i64 d.b, Value.int IntKind.i64 d.sc, Value.int IntKind.i64 d.bc, Value.int IntKind.i64 d.s, Value.int IntKind.i64 d.t]) ∧ (L 8 = true → v32 = Value.agg #[Value.int IntKind.i64 d.id, Value.int IntKind.i64 d.a, Value.int IntKind.i64 d.b, Value.int IntKind.i64 d.sc, Value.int IntKind.i64 d.bc, Value.int IntKind.i64 d.s, Value.int IntKind.i64 d.t, Value.int IntKind.i64 1, Value.bool false, Value.bool false, Value.int IntKind.i64 0]) ∧ (L 11 = true → v35 = Value.pointer (some ⟨rb, 0, none⟩)) ∧ (L 12 = true → v36 = Value.pointer (some ⟨rb, 2, none⟩))) (by kernel_rfl) ?_ ?_ ?_
  · exact ⟨_, _, _, _, _, _, _, _, _, _, _, _, _, rfl, fun _ => (Below.refl _ _).drew, nofun, nofun, nofun, nofun, nofun, nofun, nofun, nofun, nofun, nofun, nofun, nofun, nofun, nofun, nofun, nofun⟩
  · intro L az wz iz hiz hni hI hdep hcl
    obtain ⟨v24, v25, v26, v27, v28, v29, v30, v31, v32, v33, v34, v35, v36, rfl, hB, h1, h9, h6, hx, hy, h10, h13, k0, k2, k3, k4, k5, k7, k8, k11, k12⟩ := hI
    have hcase : iz = 0 ∨ iz = 1 ∨ iz = 2 ∨ iz = 3 ∨ iz = 4 ∨ iz = 5 ∨ iz = 6 ∨ iz = 7 ∨ iz = 8 ∨ iz = 9 ∨ iz = 10 ∨ iz = 11 ∨ iz = 12 ∨ iz = 13 := by
      have hi2 : iz < 14 := hiz
      omega
    rcases hcase with rfl | rfl | rfl | rfl | rfl | rfl | rfl | rfl | rfl | rfl | rfl | rfl | rfl | rfl
    · -- 0
      refine wpOp_step rfl fun Kz hKz => ?_
      go_simp
      exact hKz _ _ ⟨_, _, _, _, _, _, _, _, _, _, _, _, _, rfl, fun f => hB (add_nf f), fun e f => h1 (add_ne e (by decide)) (add_nf f), fun e f => h9 (add_ne e (by decide)) (add_nf f), fun e f => h6 (add_ne e (by decide)) (add_nf f), fun e f e2 => hx (add_ne e (by decide)) (add_nf f) (add_ne e2 (by decide)), fun e e2 f => hy (add_ne e (by decide)) (add_ne e2 (by decide)) (add_nf f), fun e f => h10 (add_ne e (by decide)) (add_nf f), fun e => h13 (add_ne e (by decide)), fun _ => rfl, fun e => k2 (add_ne e (by decide)), fun e => k3 (add_ne e (by decide)), fun e => k4 (add_ne e (by decide)), fun e => k5 (add_ne e (by decide)), fun e => k7 (add_ne e (by decide)), fun e => k8 (add_ne e (by decide)), fun e => k11 (add_ne e (by decide)), fun e => k12 (add_ne e (by decide))⟩
    · -- 1
      have hf6 : L 6 = false := by
        cases h : L 6 with
        | false => rfl
        | true => have := hcl 6 (h) 1 (by decide +kernel); rw [hni] at this; cases this
      have hf10 : L 10 = false := by
        cases h : L 10 with
        | false => rfl
        | true => have := hcl 10 (h) 6 (by decide +kernel); rw [hf6] at this; cases this
      have hf13 : L 13 = false := by
        cases h : L 13 with
        | false => rfl
        | true => have := hcl 13 (h) 10 (by decide +kernel); rw [hf10] at this; cases this
      have hBz := hB hf13
      have hbb : Below wz.heap.size wz (wz.alloc (.cells #[] 77)) := (Below.refl _ _).alloc (Nat.le_refl _) _
      have hBz2 := hBz.trans (hbb.mono hBz.size)
      have hsz := hBz.size
      refine wpOp_step rfl fun Kz hKz => ?_
      go_simp
      exact hKz _ _ ⟨_, _, _, _, _, _, _, _, _, _, _, _, _, rfl, fun _ => hBz2, fun _ _ => ⟨wz.heap.size, rfl, heap_alloc_new _ _, hsz⟩, fun e f => (by obtain ⟨e', q1, q2, q3⟩ := h9 (add_ne e (by decide)) hf10; exact ⟨e', q1, (hbb.block _ (obj_lt q2)).trans q2, q3⟩), fun e => absurd (add_ne e (by decide)) (by rw [hf6]; decide), fun _ _ e => (by obtain ⟨e', q1, q2, q3⟩ := h9 (add_ne e (by decide)) hf10; have := obj_lt q2; rw [q1]; simp [Value.ownBlock]; omega), fun e => absurd (add_ne e (by decide)) (by rw [hf6]; decide), fun e => absurd (add_ne e (by decide)) (by rw [hf10]; decide), fun e => absurd (add_ne e (by decide)) (by rw [hf13]; decide), fun e => k0 (add_ne e (by decide)), fun e => k2 (add_ne e (by decide)), fun e => k3 (add_ne e (by decide)), fun e => k4 (add_ne e (by decide)), fun e => k5 (add_ne e (by decide)), fun e => k7 (add_ne e (by decide)), fun e => k8 (add_ne e (by decide)), fun e => k11 (add_ne e (by decide)), fun e => k12 (add_ne e (by decide))⟩
    · -- 2
      refine wpOp_step rfl fun Kz hKz => ?_
      go_simp
      exact hKz _ _ ⟨_, _, _, _, _, _, _, _, _, _, _, _, _, rfl, fun f => hB (add_nf f), fun e f => h1 (add_ne e (by decide)) (add_nf f), fun e f => h9 (add_ne e (by decide)) (add_nf f), fun e f => h6 (add_ne e (by decide)) (add_nf f), fun e f e2 => hx (add_ne e (by decide)) (add_nf f) (add_ne e2 (by decide)), fun e e2 f => hy (add_ne e (by decide)) (add_ne e2 (by decide)) (add_nf f), fun e f => h10 (add_ne e (by decide)) (add_nf f), fun e => h13 (add_ne e (by decide)), fun e => k0 (add_ne e (by decide)), fun _ => rfl, fun e => k3 (add_ne e (by decide)), fun e => k4 (add_ne e (by decide)), fun e => k5 (add_ne e (by decide)), fun e => k7 (add_ne e (by decide)), fun e => k8 (add_ne e (by decide)), fun e => k11 (add_ne e (by decide)), fun e => k12 (add_ne e (by decide))⟩
    · -- 3
      have e2 := k2 (hdep 2 (by decide +kernel))
      subst e2
      refine wpOp_step rfl fun Kz hKz => ?_
      go_simp
      exact hKz _ _ ⟨_, _, _, _, _, _, _, _, _, _, _, _, _, rfl, fun f => hB (add_nf f), fun e f => h1 (add_ne e (by decide)) (add_nf f), fun e f => h9 (add_ne e (by decide)) (add_nf f), fun e f => h6 (add_ne e (by decide)) (add_nf f), fun e f e2 => hx (add_ne e (by decide)) (add_nf f) (add_ne e2 (by decide)), fun e e2 f => hy (add_ne e (by decide)) (add_ne e2 (by decide)) (add_nf f), fun e f => h10 (add_ne e (by decide)) (add_nf f), fun e => h13 (add_ne e (by decide)), fun e => k0 (add_ne e (by decide)), fun e => k2 (add_ne e (by decide)), fun _ => rfl, fun e => k4 (add_ne e (by decide)), fun e => k5 (add_ne e (by decide)), fun e => k7 (add_ne e (by decide)), fun e => k8 (add_ne e (by decide)), fun e => k11 (add_ne e (by decide)), fun e => k12 (add_ne e (by decide))⟩
    · -- 4
      have e3 := k3 (hdep 3 (by decide +kernel))
      subst e3
      refine wpOp_step rfl fun Kz hKz => ?_
      go_simp
      exact hKz _ _ ⟨_, _, _, _, _, _, _, _, _, _, _, _, _, rfl, fun f => hB (add_nf f), fun e f => h1 (add_ne e (by decide)) (add_nf f), fun e f => h9 (add_ne e (by decide)) (add_nf f), fun e f => h6 (add_ne e (by decide)) (add_nf f), fun e f e2 => hx (add_ne e (by decide)) (add_nf f) (add_ne e2 (by decide)), fun e e2 f => hy (add_ne e (by decide)) (add_ne e2 (by decide)) (add_nf f), fun e f => h10 (add_ne e (by decide)) (add_nf f), fun e => h13 (add_ne e (by decide)), fun e => k0 (add_ne e (by decide)), fun e => k2 (add_ne e (by decide)), fun e => k3 (add_ne e (by decide)), fun _ => rfl, fun e => k5 (add_ne e (by decide)), fun e => k7 (add_ne e (by decide)), fun e => k8 (add_ne e (by decide)), fun e => k11 (add_ne e (by decide)), fun e => k12 (add_ne e (by decide))⟩
    · -- 5
      have hf6 : L 6 = false := by
        cases h : L 6 with
        | false => rfl
        | true => have := hcl 6 (h) 5 (by decide +kernel); rw [hni] at this; cases this
      have hf10 : L 10 = false := by
        cases h : L 10 with
        | false => rfl
        | true => have := hcl 10 (h) 6 (by decide +kernel); rw [hf6] at this; cases this
      have hf13 : L 13 = false := by
        cases h : L 13 with
        | false => rfl
        | true => have := hcl 13 (h) 10 (by decide +kernel); rw [hf10] at this; cases this
      have hBz := hB hf13
      have e4 := k4 (hdep 4 (by decide +kernel))
      subst e4
      have z := (hBz.cell (p := ⟨rb, 2, none⟩) hrl).trans c2
      refine wpOp_step rfl fun Kz hKz => ?_
      go_simp
      exact hKz _ _ ⟨_, _, _, _, _, _, _, _, _, _, _, _, _, rfl, fun f => hB (add_nf f), fun e f => h1 (add_ne e (by decide)) (add_nf f), fun e f => h9 (add_ne e (by decide)) (add_nf f), fun e f => h6 (add_ne e (by decide)) (add_nf f), fun e f e2 => hx (add_ne e (by decide)) (add_nf f) (add_ne e2 (by decide)), fun e e2 f => hy (add_ne e (by decide)) (add_ne e2 (by decide)) (add_nf f), fun e f => h10 (add_ne e (by decide)) (add_nf f), fun e => h13 (add_ne e (by decide)), fun e => k0 (add_ne e (by decide)), fun e => k2 (add_ne e (by decide)), fun e => k3 (add_ne e (by decide)), fun e => k4 (add_ne e (by decide)), fun _ => rfl, fun e => k7 (add_ne e (by decide)), fun e => k8 (add_ne e (by decide)), fun e => k11 (add_ne e (by decide)), fun e => k12 (add_ne e (by decide))⟩
    · -- 6
      have hf10 : L 10 = false := by
        cases h : L 10 with
        | false => rfl
        | true => have := hcl 10 (h) 6 (by decide +kernel); rw [hni] at this; cases this
      have hf13 : L 13 = false := by
        cases h : L 13 with
        | false => rfl
        | true => have := hcl 13 (h) 10 (by decide +kernel); rw [hf10] at this; cases this
      have hBz := hB hf13
      obtain ⟨s, e1, hS, hSb⟩ := h1 (hdep 1 (by decide +kernel)) hni
      have e5 := k5 (hdep 5 (by decide +kernel))
      have hx1 := hx (hdep 1 (by decide +kernel)) hni
      subst e1
      subst e5
      obtain ⟨v', w', hrun, hO, hOg, hG⟩ := copyS_run wz s hS _ b.l (orow_kept hRv.out.row fun g hg => hBz.block g (World.ownsRow.lt hRv.out.row g hg).2) hlen.out
      have hBz2 := hBz.grown hG hBz.size (fun k hk => by injection hk with hk; omega)
      have hsz := hBz.size
      refine wpOp_step rfl fun Kz hKz => ?_
      refine step_app rfl (.tmp 25) (.tmp 29) 73 73 rfl _ _ _ _ rfl rfl hrun ?_
      go_simp
      exact hKz _ _ ⟨_, _, _, _, _, _, _, _, _, _, _, _, _, rfl, fun _ => hBz2, fun _ f => (by rw [show add L 6 6 = true from add_iff.2 (.inr rfl)] at f; cases f), fun e f => (by obtain ⟨e', q1, q2, q3⟩ := h9 (add_ne e (by decide)) hf10; have hne := hx1 (add_ne e (by decide)); rw [q1] at hne; exact ⟨e', q1, (hG.block e' (obj_lt q2) (fun h => hne (by simpa [Value.ownBlock] using h.symm))).trans q2, q3⟩), fun _ _ => ⟨by rw [hn.out]; exact hO, fun g hg => by rcases hOg g hg with h | h <;> omega⟩, fun _ f => (by rw [show add L 6 6 = true from add_iff.2 (.inr rfl)] at f; cases f), fun _ e f g hg h33 => (by obtain ⟨e', q1, q2, q3⟩ := h9 (add_ne e (by decide)) hf10; have hne := hx1 (add_ne e (by decide)); have := obj_lt q2; rw [q1] at hne h33; simp [Value.ownBlock] at hne h33; rcases hOg g hg with h | h <;> omega), fun e => absurd (add_ne e (by decide)) (by rw [hf10]; decide), fun e => absurd (add_ne e (by decide)) (by rw [hf13]; decide), fun e => k0 (add_ne e (by decide)), fun e => k2 (add_ne e (by decide)), fun e => k3 (add_ne e (by decide)), fun e => k4 (add_ne e (by decide)), fun e => k5 (add_ne e (by decide)), fun e => k7 (add_ne e (by decide)), fun e => k8 (add_ne e (by decide)), fun e => k11 (add_ne e (by decide)), fun e => k12 (add_ne e (by decide))⟩
    · -- 7
      have hf8 : L 8 = false := by
        cases h : L 8 with
        | false => rfl
        | true => have := hcl 8 (h) 7 (by decide +kernel); rw [hni] at this; cases this
      have hf9 : L 9 = false := by
        cases h : L 9 with
        | false => rfl
        | true => have := hcl 9 (h) 8 (by decide +kernel); rw [hf8] at this; cases this
      have hf10 : L 10 = false := by
        cases h : L 10 with
        | false => rfl
        | true => have := hcl 10 (h) 9 (by decide +kernel); rw [hf9] at this; cases this
      have hf13 : L 13 = false := by
        cases h : L 13 with
        | false => rfl
        | true => have := hcl 13 (h) 10 (by decide +kernel); rw [hf10] at this; cases this
      have hBz := hB hf13
      have z0 := (hBz.cell (p := ⟨w.heap.size, 0, none⟩) hlw).trans j0
      have z1 := (hBz.cell (p := ⟨w.heap.size, 1, none⟩) hlw).trans j1
      have z2 := (hBz.cell (p := ⟨w.heap.size, 2, none⟩) hlw).trans j2
      have z3 := (hBz.cell (p := ⟨w.heap.size, 3, none⟩) hlw).trans j3
      have z4 := (hBz.cell (p := ⟨w.heap.size, 4, none⟩) hlw).trans j4
      have z5 := (hBz.cell (p := ⟨w.heap.size, 5, none⟩) hlw).trans j5
      have z6 := (hBz.cell (p := ⟨w.heap.size, 6, none⟩) hlw).trans j6
      refine wpOp_step rfl fun Kz hKz => ?_
      go_simp
      exact hKz _ _ ⟨_, _, _, _, _, _, _, _, _, _, _, _, _, rfl, fun f => hB (add_nf f), fun e f => h1 (add_ne e (by decide)) (add_nf f), fun e f => h9 (add_ne e (by decide)) (add_nf f), fun e f => h6 (add_ne e (by decide)) (add_nf f), fun e f e2 => hx (add_ne e (by decide)) (add_nf f) (add_ne e2 (by decide)), fun e e2 f => hy (add_ne e (by decide)) (add_ne e2 (by decide)) (add_nf f), fun e f => h10 (add_ne e (by decide)) (add_nf f), fun e => h13 (add_ne e (by decide)), fun e => k0 (add_ne e (by decide)), fun e => k2 (add_ne e (by decide)), fun e => k3 (add_ne e (by decide)), fun e => k4 (add_ne e (by decide)), fun e => k5 (add_ne e (by decide)), fun _ => rfl, fun e => k8 (add_ne e (by decide)), fun e => k11 (add_ne e (by decide)), fun e => k12 (add_ne e (by decide))⟩
    · -- 8
      have e7 := k7 (hdep 7 (by decide +kernel))
      subst e7
      refine wpOp_step rfl fun Kz hKz => ?_
      go_simp
      exact hKz _ _ ⟨_, _, _, _, _, _, _, _, _, _, _, _, _, rfl, fun f => hB (add_nf f), fun e f => h1 (add_ne e (by decide)) (add_nf f), fun e f => h9 (add_ne e (by decide)) (add_nf f), fun e f => h6 (add_ne e (by decide)) (add_nf f), fun e f e2 => hx (add_ne e (by decide)) (add_nf f) (add_ne e2 (by decide)), fun e e2 f => hy (add_ne e (by decide)) (add_ne e2 (by decide)) (add_nf f), fun e f => h10 (add_ne e (by decide)) (add_nf f), fun e => h13 (add_ne e (by decide)), fun e => k0 (add_ne e (by decide)), fun e => k2 (add_ne e (by decide)), fun e => k3 (add_ne e (by decide)), fun e => k4 (add_ne e (by decide)), fun e => k5 (add_ne e (by decide)), fun e => k7 (add_ne e (by decide)), fun _ => rfl, fun e => k11 (add_ne e (by decide)), fun e => k12 (add_ne e (by decide))⟩
    · -- 9
      have hf10 : L 10 = false := by
        cases h : L 10 with
        | false => rfl
        | true => have := hcl 10 (h) 9 (by decide +kernel); rw [hni] at this; cases this
      have hf13 : L 13 = false := by
        cases h : L 13 with
        | false => rfl
        | true => have := hcl 13 (h) 10 (by decide +kernel); rw [hf10] at this; cases this
      have hBz := hB hf13
      have e8 := k8 (hdep 8 (by decide +kernel))
      subst e8
      have hbb : Below wz.heap.size wz (wz.alloc (.cells #[Value.int IntKind.i64 d.id, Value.int IntKind.i64 d.a, Value.int IntKind.i64 d.b, Value.int IntKind.i64 d.sc, Value.int IntKind.i64 d.bc, Value.int IntKind.i64 d.s, Value.int IntKind.i64 d.t, Value.int IntKind.i64 1, Value.bool false, Value.bool false, Value.int IntKind.i64 0] 77)) := (Below.refl _ _).alloc (Nat.le_refl _) _
      have hBz2 := hBz.trans (hbb.mono hBz.size)
      have hsz := hBz.size
      refine wpOp_step rfl fun Kz hKz => ?_
      go_simp
      exact hKz _ _ ⟨_, _, _, _, _, _, _, _, _, _, _, _, _, rfl, fun _ => hBz2, fun e f => (by obtain ⟨s, q1, q2, q3⟩ := h1 (add_ne e (by decide)) (add_nf f); exact ⟨s, q1, (hbb.block _ (obj_lt q2)).trans q2, q3⟩), fun _ _ => ⟨wz.heap.size, rfl, heap_alloc_new _ _, hsz⟩, fun e f => (by obtain ⟨q1, q2⟩ := h6 (add_ne e (by decide)) hf10; exact ⟨orow_kept q1 fun g hg => hbb.block g (World.ownsRow.lt q1 g hg).2, q2⟩), fun e f _ => (by obtain ⟨s, q1, q2, q3⟩ := h1 (add_ne e (by decide)) (add_nf f); have := obj_lt q2; rw [q1]; simp [Value.ownBlock]; omega), fun e _ f g hg => (by obtain ⟨q1, q2⟩ := h6 (add_ne e (by decide)) hf10; have := (World.ownsRow.lt q1 g hg).2; simp [Value.ownBlock]; omega), fun e => absurd (add_ne e (by decide)) (by rw [hf10]; decide), fun e => absurd (add_ne e (by decide)) (by rw [hf13]; decide), fun e => k0 (add_ne e (by decide)), fun e => k2 (add_ne e (by decide)), fun e => k3 (add_ne e (by decide)), fun e => k4 (add_ne e (by decide)), fun e => k5 (add_ne e (by decide)), fun e => k7 (add_ne e (by decide)), fun e => k8 (add_ne e (by decide)), fun e => k11 (add_ne e (by decide)), fun e => k12 (add_ne e (by decide))⟩
    · -- 10
      have hf13 : L 13 = false := by
        cases h : L 13 with
        | false => rfl
        | true => have := hcl 13 (h) 10 (by decide +kernel); rw [hni] at this; cases this
      have hBz := hB hf13
      obtain ⟨hO, hOg⟩ := h6 (hdep 6 (by decide +kernel)) hni
      obtain ⟨e', e9, hE, hEb⟩ := h9 (hdep 9 (by decide +kernel)) hni
      subst e9
      have hsz := hBz.size
      obtain ⟨v', w', hrun, hO2, hG, hO3⟩ := app1_run 73 77 11 80 _ Tryz.underlying73 info61 (by rfl) (by omega) (by omega) wz _ n (cellsR b.l) hO ⟨e', 0, none⟩ [Value.int IntKind.i64 d.id, Value.int IntKind.i64 d.a, Value.int IntKind.i64 d.b, Value.int IntKind.i64 d.sc, Value.int IntKind.i64 d.bc, Value.int IntKind.i64 d.s, Value.int IntKind.i64 d.t, Value.int IntKind.i64 1, Value.bool false, Value.bool false, Value.int IntKind.i64 0] rfl (fun j u hu => by have ea : (⟨e', 0, none⟩ : Addr).add j = ⟨e', j, none⟩ := (by unfold Addr.add; split <;> simp_all); rw [ea]; exact obj_cell hE (by simpa using hu)) (fun u hu => ((⟨d, 1, 0, 0⟩ : En).rcs_one u hu)) (by omega)
      have hBz2 := hBz.grown hG hBz.size (fun k hk => hOg k hk)
      refine wpOp_step rfl fun Kz hKz => ?_
      refine step_app rfl (.tmp 30) (.tmp 33) 73 73 rfl _ _ _ _ rfl rfl hrun ?_
      go_simp
      exact hKz _ _ ⟨_, _, _, _, _, _, _, _, _, _, _, _, _, rfl, fun _ => hBz2, fun e f => absurd (hdep 6 (by decide +kernel)) (by rw [add_nf f]; decide), fun _ f => (by rw [show add L 10 10 = true from add_iff.2 (.inr rfl)] at f; cases f), fun _ f => (by rw [show add L 10 10 = true from add_iff.2 (.inr rfl)] at f; cases f), fun e f => absurd (hdep 6 (by decide +kernel)) (by rw [add_nf f]; decide), fun _ _ f => (by rw [show add L 10 10 = true from add_iff.2 (.inr rfl)] at f; cases f), fun _ _ => ⟨hO2, fun g hg => by rcases hO3 g hg with h | h; exact hOg g h; omega⟩, fun e => absurd (add_ne e (by decide)) (by rw [hf13]; decide), fun e => k0 (add_ne e (by decide)), fun e => k2 (add_ne e (by decide)), fun e => k3 (add_ne e (by decide)), fun e => k4 (add_ne e (by decide)), fun e => k5 (add_ne e (by decide)), fun e => k7 (add_ne e (by decide)), fun e => k8 (add_ne e (by decide)), fun e => k11 (add_ne e (by decide)), fun e => k12 (add_ne e (by decide))⟩
    · -- 11
      have e0 := k0 (hdep 0 (by decide +kernel))
      subst e0
      refine wpOp_step rfl fun Kz hKz => ?_
      go_simp
      exact hKz _ _ ⟨_, _, _, _, _, _, _, _, _, _, _, _, _, rfl, fun f => hB (add_nf f), fun e f => h1 (add_ne e (by decide)) (add_nf f), fun e f => h9 (add_ne e (by decide)) (add_nf f), fun e f => h6 (add_ne e (by decide)) (add_nf f), fun e f e2 => hx (add_ne e (by decide)) (add_nf f) (add_ne e2 (by decide)), fun e e2 f => hy (add_ne e (by decide)) (add_ne e2 (by decide)) (add_nf f), fun e f => h10 (add_ne e (by decide)) (add_nf f), fun e => h13 (add_ne e (by decide)), fun e => k0 (add_ne e (by decide)), fun e => k2 (add_ne e (by decide)), fun e => k3 (add_ne e (by decide)), fun e => k4 (add_ne e (by decide)), fun e => k5 (add_ne e (by decide)), fun e => k7 (add_ne e (by decide)), fun e => k8 (add_ne e (by decide)), fun _ => rfl, fun e => k12 (add_ne e (by decide))⟩
    · -- 12
      have e11 := k11 (hdep 11 (by decide +kernel))
      subst e11
      refine wpOp_step rfl fun Kz hKz => ?_
      go_simp
      exact hKz _ _ ⟨_, _, _, _, _, _, _, _, _, _, _, _, _, rfl, fun f => hB (add_nf f), fun e f => h1 (add_ne e (by decide)) (add_nf f), fun e f => h9 (add_ne e (by decide)) (add_nf f), fun e f => h6 (add_ne e (by decide)) (add_nf f), fun e f e2 => hx (add_ne e (by decide)) (add_nf f) (add_ne e2 (by decide)), fun e e2 f => hy (add_ne e (by decide)) (add_ne e2 (by decide)) (add_nf f), fun e f => h10 (add_ne e (by decide)) (add_nf f), fun e => h13 (add_ne e (by decide)), fun e => k0 (add_ne e (by decide)), fun e => k2 (add_ne e (by decide)), fun e => k3 (add_ne e (by decide)), fun e => k4 (add_ne e (by decide)), fun e => k5 (add_ne e (by decide)), fun e => k7 (add_ne e (by decide)), fun e => k8 (add_ne e (by decide)), fun e => k11 (add_ne e (by decide)), fun _ => rfl⟩
    · -- 13
      obtain ⟨hO, hOg⟩ := h10 (hdep 10 (by decide +kernel)) hni
      have e12 := k12 (hdep 12 (by decide +kernel))
      subst e12
      have hBz := hB hni
      have z := (hBz.cell (p := ⟨rb, 2, none⟩) hrl).trans c2
      have hfz : wz.frozen? ⟨rb, 2, none⟩ = false := obj_free ((hBz.block rb hrl).trans hRv.out.obj) 2
      obtain ⟨p4, cap4, e34, -, -, -⟩ := orow_shape hO
      subst e34
      have h6t := hcl 10 (hdep 10 (by decide +kernel)) 6 (by decide +kernel)
      refine wpOp_step rfl fun Kz hKz => ?_
      go_simp
      exact hKz _ _ ⟨_, _, _, _, _, _, _, _, _, _, _, _, _, rfl, fun f => (by rw [show add L 13 13 = true from add_iff.2 (.inr rfl)] at f; cases f), fun e f => absurd h6t (by rw [add_nf f]; decide), fun e f => absurd (hdep 10 (by decide +kernel)) (by rw [add_nf f]; decide), fun e f => absurd (hdep 10 (by decide +kernel)) (by rw [add_nf f]; decide), fun e f => absurd h6t (by rw [add_nf f]; decide), fun _ _ f => absurd (hdep 10 (by decide +kernel)) (by rw [add_nf f]; decide), fun _ f => (by rw [show add L 13 13 = true from add_iff.2 (.inr rfl)] at f; cases f), fun _ => ⟨wz, _, hBz, hO, hOg, rfl⟩, fun e => k0 (add_ne e (by decide)), fun e => k2 (add_ne e (by decide)), fun e => k3 (add_ne e (by decide)), fun e => k4 (add_ne e (by decide)), fun e => k5 (add_ne e (by decide)), fun e => k7 (add_ne e (by decide)), fun e => k8 (add_ne e (by decide)), fun e => k11 (add_ne e (by decide)), fun e => k12 (add_ne e (by decide))⟩
  · intro L az wz hI hL
    obtain ⟨v24, v25, v26, v27, v28, v29, v30, v31, v32, v33, v34, v35, v36, rfl, hB, h1, h9, h6, hx, hy, h10, h13, k0, k2, k3, k4, k5, k7, k8, k11, k12⟩ := hI
    obtain ⟨w7, u, q1, q2, q3, rfl⟩ := h13 (hL 13 (by decide))
    have hobj := (q1.block rb hrl).trans hRv.out.obj
    have hfin : RB P (w7.setCell ⟨rb, 2, none⟩ u) rb { b with l := b.l ++ [⟨d, 1, 0, 0⟩] } := by
      refine ⟨u, obj_set hobj 2 _, ?_, hRv.out.pg, fun g hg => hf g (by have := q3 g hg; omega)⟩
      rw [cellsR_app, List.length_append, List.length_singleton, ← hn.out]
      exact orow_kept q2 fun g hg => obj_other _ fun e => by have := q3 g hg; have e2 : g = rb := e; omega
    have hK := ((((Kp.of_below hb0.out).trans (Kp.of_below hb2.out)).trans (Kp.of_below q1)).setCell (p := ⟨rb, 2, none⟩) (.inl hRv.out.pg) u : Kp P w _)
    replace hfin := Lib.hid hfin
    replace hK := Lib.hid hK
    clear hB h1 h9 h6 hx hy h10 h13 hL
    go_wp2_with fail
    go_ret2
    exact ⟨rfl, hfin.out, hK.out⟩
end
end Go.Proofs.YthocnlalahknjaaGreat.Dd
namespace Go.Proofs.YthocnlalahknjaaGreat.Dd
open Go.RowKit
set_option linter.unusedVariables false
section
variable {P : Nat → Prop} {w : World} {rb : Nat} {b : Bk} {v : Value}
set_option maxHeartbeats 4000000 in
set_option maxRecDepth 100000 in
theorem rsub_no (h : RB P w rb b) (d : Dl) (hm : mayB d b.mem b.cur = true) {i : Nat} (ha : atL b.l d.id = some i) (hlen : b.l.length ≤ 1000)
    (hno : (b.sub d).2 = b ∧ ((b.sub d).1 = (false, 6) ∨ (b.sub d).1 = (false, 12))) :
    Calls Tryz.prog 24 #[.pointer (some ⟨rb, 0, none⟩), d.val] w fun e w' => e = .returned (.tuple #[.bool (b.sub d).1.1, .int .i64 (b.sub d).1.2]) ∧ RB P w' rb (b.sub d).2 ∧ Below w.heap.size w w' := by
  obtain ⟨hlt, hidx⟩ := atL_some ha
  have hidq := Lib.hid hidx
  clear hidx
  have hsub : b.sub d = (if (b.l[i]).st ≠ 1 ∨ (b.l[i]).d.a = d.a then ((false, 6), b) else if d ≠ (b.l[i]).d.mir then ((false, 12), b) else ((true, 0), { b with l := b.l.set i { b.l[i] with st := 2, nth := (b.many : Int) + 1 }, many := b.many + 1 })) := by
    unfold Bk.sub; rw [if_neg (by rw [hm]; simp), ha]; dsimp only; rw [getD_at hlt]
  have hb0 : Below w.heap.size w (w.alloc d.obj) := (Below.refl _ _).alloc (Nat.le_refl _) _
  have h1 := below_rb h hb0
  have cm := may_any d b.mem b.cur rb (w.alloc d.obj) (rb_head h1).1 (rb_head h1).2
  rw [hm] at cm
  have ca : ∀ W, RB P W rb b → Calls Tryz.prog 51 #[.pointer (some ⟨rb, 0, none⟩), .int .i64 d.id] W fun e w' => e = .returned (.int .i64 (i : Int)) ∧ W = w' := fun W hW => by
    have := at_any hW d.id hlen
    rwa [ha] at this
  have hD := fun w2 => dbox (w := w) (w2 := w2) (d := d)
  obtain ⟨k0, k1, k2, k3, k4, k5, k6⟩ := dbox (Below.refl (w.alloc d.obj).heap.size (w.alloc d.obj))
  have hiz : (0 : Int) ≤ (i : Int) := by omega
  have hin : (i : Int) < (b.l.length : Int) := by omega
  have hc : ∀ W, RB P W rb b → ∃ g cap, W.cell? ⟨rb, 2, none⟩ = some (.slice (some ⟨g, 0, none⟩) b.l.length cap) ∧ W.cell? ⟨g, i * 11, none⟩ = some (.int .i64 (b.l[i]).d.id) ∧ W.cell? ⟨g, i * 11 + 1, none⟩ = some (.int .i64 (b.l[i]).d.a) ∧ W.cell? ⟨g, i * 11 + 2, none⟩ = some (.int .i64 (b.l[i]).d.b) ∧ W.cell? ⟨g, i * 11 + 3, none⟩ = some (.int .i64 (b.l[i]).d.sc) ∧ W.cell? ⟨g, i * 11 + 4, none⟩ = some (.int .i64 (b.l[i]).d.bc) ∧ W.cell? ⟨g, i * 11 + 5, none⟩ = some (.int .i64 (b.l[i]).d.s) ∧ W.cell? ⟨g, i * 11 + 6, none⟩ = some (.int .i64 (b.l[i]).d.t) ∧ W.cell? ⟨g, i * 11 + 7, none⟩ = some (.int .i64 (b.l[i]).st) ∧ W.cell? ⟨g, i * 11 + 8, none⟩ = some (.bool (b.l[i]).byA) ∧ W.cell? ⟨g, i * 11 + 9, none⟩ = some (.bool (b.l[i]).byB) ∧ W.cell? ⟨g, i * 11 + 10, none⟩ = some (.int .i64 (b.l[i]).nth) := fun W ⟨v, hW⟩ => by
    obtain ⟨g, cap, cur, rfl, -⟩ := orow_some hW.row (by omega)
    exact ⟨g, cap, obj_cell hW.obj rfl, hW.entry hlt rfl⟩
  obtain ⟨hs2, hs1⟩ := hno
  rw [hs2]
  generalize hr : (b.sub d).1 = r at *
  generalize b.l[i] = x at *
  replace hr : (b.sub d).1 = r := hr
  rw [hsub] at hr hs2
  clear hsub hm
  unfold Dl.val at *
  unfold Dl.obj at *
  replace h1 := Lib.hid h1
  replace h := Lib.hid h
  replace hb0 := Lib.hid hb0
  replace cm := Lib.hid cm
  replace ca := Lib.hid ca
  replace hD := Lib.hid hD
  replace hc := Lib.hid hc
  replace ha := Lib.hid ha
  replace hlen := Lib.hid hlen
  replace hs2 := Lib.hid hs2
  generalize b.l.length = n at *
  by_cases p0 : x.st = 1
  rotate_left
  · have q0 : (x.st == 1) = false := by simpa using p0
    have n0 : (x.st != 1) = true := by simp [bne, q0]
    have hrr : Hid (r = (false, 6)) := Lib.hid (by rw [← hr, if_pos (.inl p0)])
    clear hr hs1
    replace p0 := Lib.hid p0
    go_enter Tryz.func24, Tryz.ntmps24
    go_wp2_with (first | (go_at_call 50; (with_reducible refine cm.out.mono ?_); rintro e w2 ⟨rfl, hb2⟩; have hR2 := Lib.hid (below_rb h1.out hb2); have hlw : w.heap.size < w2.heap.size := Nat.lt_of_lt_of_le (by simp) hb2.size; obtain ⟨j0, j1, j2, j3, j4, j5, j6⟩ := hD.out w2 hb2; obtain ⟨g, cap, c2, e0, e1, e2, e3, e4, e5, e6, e7, e8, e9, e10⟩ := hc.out w2 hR2.out; replace hb2 := Lib.hid hb2) | (go_at_call 51; (with_reducible refine (ca.out _ hR2.out).mono ?_); rintro e w3 ⟨rfl, rfl⟩))
    go_ret2
    have hbx := (Below.refl w2.heap.size w2).alloc (Nat.le_refl _) (.cells #[.int .i64 x.d.id, .int .i64 x.d.a, .int .i64 x.d.b, .int .i64 x.d.sc, .int .i64 x.d.bc, .int .i64 x.d.s, .int .i64 x.d.t, .int .i64 x.st, .bool x.byA, .bool x.byB, .int .i64 x.nth] 77)
    exact ⟨hrr.out ▸ rfl, below_rb hR2.out hbx, hb0.out.trans ((hb2.out.trans (hbx.mono hb2.out.size)).mono hb0.out.size)⟩
  have q0 : (x.st == 1) = true := by simpa using p0
  have n0 : (x.st != 1) = false := by simp [bne, q0]
  by_cases p1 : x.d.a = d.a
  · have q1 : (x.d.a == d.a) = true := by simpa using p1
    have hrr : Hid (r = (false, 6)) := Lib.hid (by rw [← hr, if_pos (.inr p1)])
    clear hr hs1
    replace p0 := Lib.hid p0
    replace p1 := Lib.hid p1
    go_enter Tryz.func24, Tryz.ntmps24
    go_wp2_with (first | (go_at_call 50; (with_reducible refine cm.out.mono ?_); rintro e w2 ⟨rfl, hb2⟩; have hR2 := Lib.hid (below_rb h1.out hb2); have hlw : w.heap.size < w2.heap.size := Nat.lt_of_lt_of_le (by simp) hb2.size; obtain ⟨j0, j1, j2, j3, j4, j5, j6⟩ := hD.out w2 hb2; obtain ⟨g, cap, c2, e0, e1, e2, e3, e4, e5, e6, e7, e8, e9, e10⟩ := hc.out w2 hR2.out; replace hb2 := Lib.hid hb2) | (go_at_call 51; (with_reducible refine (ca.out _ hR2.out).mono ?_); rintro e w3 ⟨rfl, rfl⟩))
    go_ret2
    have hbx := (Below.refl w2.heap.size w2).alloc (Nat.le_refl _) (.cells #[.int .i64 x.d.id, .int .i64 x.d.a, .int .i64 x.d.b, .int .i64 x.d.sc, .int .i64 x.d.bc, .int .i64 x.d.s, .int .i64 x.d.t, .int .i64 x.st, .bool x.byA, .bool x.byB, .int .i64 x.nth] 77)
    exact ⟨hrr.out ▸ rfl, below_rb hR2.out hbx, hb0.out.trans ((hb2.out.trans (hbx.mono hb2.out.size)).mono hb0.out.size)⟩
  have q1 : (x.d.a == d.a) = false := by simpa using p1
  rw [if_neg (by rintro (h | h); exact h p0; exact p1 h)] at hr
  replace p0 := Lib.hid p0
  replace p1 := Lib.hid p1
  by_cases m0 : x.d.a = d.b
  rotate_left
  · have n2 : (x.d.a != d.b) = true := by simpa using m0
    have hrr : Hid (r = (false, 12)) := Lib.hid (by rw [← hr, if_pos (by intro e; exact m0 (by rw [e]; rfl))])
    clear hr hs1
    replace m0 := Lib.hid m0
    go_enter Tryz.func24, Tryz.ntmps24
    go_wp2_with (first | (go_at_call 50; (with_reducible refine cm.out.mono ?_); rintro e w2 ⟨rfl, hb2⟩; have hR2 := Lib.hid (below_rb h1.out hb2); have hlw : w.heap.size < w2.heap.size := Nat.lt_of_lt_of_le (by simp) hb2.size; obtain ⟨j0, j1, j2, j3, j4, j5, j6⟩ := hD.out w2 hb2; obtain ⟨g, cap, c2, e0, e1, e2, e3, e4, e5, e6, e7, e8, e9, e10⟩ := hc.out w2 hR2.out; replace hb2 := Lib.hid hb2) | (go_at_call 51; (with_reducible refine (ca.out _ hR2.out).mono ?_); rintro e w3 ⟨rfl, rfl⟩))
    go_ret2
    have hbx := (Below.refl w2.heap.size w2).alloc (Nat.le_refl _) (.cells #[.int .i64 x.d.id, .int .i64 x.d.a, .int .i64 x.d.b, .int .i64 x.d.sc, .int .i64 x.d.bc, .int .i64 x.d.s, .int .i64 x.d.t, .int .i64 x.st, .bool x.byA, .bool x.byB, .int .i64 x.nth] 77)
    exact ⟨hrr.out ▸ rfl, below_rb hR2.out hbx, hb0.out.trans ((hb2.out.trans (hbx.mono hb2.out.size)).mono hb0.out.size)⟩
  have n2 : (x.d.a != d.b) = false := by simpa using m0
  replace m0 := Lib.hid m0
  by_cases m1 : x.d.b = d.a
  rotate_left
  · have n3 : (x.d.b != d.a) = true := by simpa using m1
    have hrr : Hid (r = (false, 12)) := Lib.hid (by rw [← hr, if_pos (by intro e; exact m1 (by rw [e]; rfl))])
    clear hr hs1
    replace m1 := Lib.hid m1
    go_enter Tryz.func24, Tryz.ntmps24
    go_wp2_with (first | (go_at_call 50; (with_reducible refine cm.out.mono ?_); rintro e w2 ⟨rfl, hb2⟩; have hR2 := Lib.hid (below_rb h1.out hb2); have hlw : w.heap.size < w2.heap.size := Nat.lt_of_lt_of_le (by simp) hb2.size; obtain ⟨j0, j1, j2, j3, j4, j5, j6⟩ := hD.out w2 hb2; obtain ⟨g, cap, c2, e0, e1, e2, e3, e4, e5, e6, e7, e8, e9, e10⟩ := hc.out w2 hR2.out; replace hb2 := Lib.hid hb2) | (go_at_call 51; (with_reducible refine (ca.out _ hR2.out).mono ?_); rintro e w3 ⟨rfl, rfl⟩))
    go_ret2
    have hbx := (Below.refl w2.heap.size w2).alloc (Nat.le_refl _) (.cells #[.int .i64 x.d.id, .int .i64 x.d.a, .int .i64 x.d.b, .int .i64 x.d.sc, .int .i64 x.d.bc, .int .i64 x.d.s, .int .i64 x.d.t, .int .i64 x.st, .bool x.byA, .bool x.byB, .int .i64 x.nth] 77)
    exact ⟨hrr.out ▸ rfl, below_rb hR2.out hbx, hb0.out.trans ((hb2.out.trans (hbx.mono hb2.out.size)).mono hb0.out.size)⟩
  have n3 : (x.d.b != d.a) = false := by simpa using m1
  replace m1 := Lib.hid m1
  by_cases m2 : x.d.sc = d.bc
  rotate_left
  · have n4 : (x.d.sc != d.bc) = true := by simpa using m2
    have hrr : Hid (r = (false, 12)) := Lib.hid (by rw [← hr, if_pos (by intro e; exact m2 (by rw [e]; rfl))])
    clear hr hs1
    replace m2 := Lib.hid m2
    go_enter Tryz.func24, Tryz.ntmps24
    go_wp2_with (first | (go_at_call 50; (with_reducible refine cm.out.mono ?_); rintro e w2 ⟨rfl, hb2⟩; have hR2 := Lib.hid (below_rb h1.out hb2); have hlw : w.heap.size < w2.heap.size := Nat.lt_of_lt_of_le (by simp) hb2.size; obtain ⟨j0, j1, j2, j3, j4, j5, j6⟩ := hD.out w2 hb2; obtain ⟨g, cap, c2, e0, e1, e2, e3, e4, e5, e6, e7, e8, e9, e10⟩ := hc.out w2 hR2.out; replace hb2 := Lib.hid hb2) | (go_at_call 51; (with_reducible refine (ca.out _ hR2.out).mono ?_); rintro e w3 ⟨rfl, rfl⟩))
    go_ret2
    have hbx := (Below.refl w2.heap.size w2).alloc (Nat.le_refl _) (.cells #[.int .i64 x.d.id, .int .i64 x.d.a, .int .i64 x.d.b, .int .i64 x.d.sc, .int .i64 x.d.bc, .int .i64 x.d.s, .int .i64 x.d.t, .int .i64 x.st, .bool x.byA, .bool x.byB, .int .i64 x.nth] 77)
    exact ⟨hrr.out ▸ rfl, below_rb hR2.out hbx, hb0.out.trans ((hb2.out.trans (hbx.mono hb2.out.size)).mono hb0.out.size)⟩
  have n4 : (x.d.sc != d.bc) = false := by simpa using m2
  replace m2 := Lib.hid m2
  by_cases m3 : x.d.bc = d.sc
  rotate_left
  · have n5 : (x.d.bc != d.sc) = true := by simpa using m3
    have hrr : Hid (r = (false, 12)) := Lib.hid (by rw [← hr, if_pos (by intro e; exact m3 (by rw [e]; rfl))])
    clear hr hs1
    replace m3 := Lib.hid m3
    go_enter Tryz.func24, Tryz.ntmps24
    go_wp2_with (first | (go_at_call 50; (with_reducible refine cm.out.mono ?_); rintro e w2 ⟨rfl, hb2⟩; have hR2 := Lib.hid (below_rb h1.out hb2); have hlw : w.heap.size < w2.heap.size := Nat.lt_of_lt_of_le (by simp) hb2.size; obtain ⟨j0, j1, j2, j3, j4, j5, j6⟩ := hD.out w2 hb2; obtain ⟨g, cap, c2, e0, e1, e2, e3, e4, e5, e6, e7, e8, e9, e10⟩ := hc.out w2 hR2.out; replace hb2 := Lib.hid hb2) | (go_at_call 51; (with_reducible refine (ca.out _ hR2.out).mono ?_); rintro e w3 ⟨rfl, rfl⟩))
    go_ret2
    have hbx := (Below.refl w2.heap.size w2).alloc (Nat.le_refl _) (.cells #[.int .i64 x.d.id, .int .i64 x.d.a, .int .i64 x.d.b, .int .i64 x.d.sc, .int .i64 x.d.bc, .int .i64 x.d.s, .int .i64 x.d.t, .int .i64 x.st, .bool x.byA, .bool x.byB, .int .i64 x.nth] 77)
    exact ⟨hrr.out ▸ rfl, below_rb hR2.out hbx, hb0.out.trans ((hb2.out.trans (hbx.mono hb2.out.size)).mono hb0.out.size)⟩
  have n5 : (x.d.bc != d.sc) = false := by simpa using m3
  replace m3 := Lib.hid m3
  by_cases m4 : x.d.s = d.t
  rotate_left
  · have n6 : (x.d.s != d.t) = true := by simpa using m4
    have hrr : Hid (r = (false, 12)) := Lib.hid (by rw [← hr, if_pos (by intro e; exact m4 (by rw [e]; rfl))])
    clear hr hs1
    replace m4 := Lib.hid m4
    go_enter Tryz.func24, Tryz.ntmps24
    go_wp2_with (first | (go_at_call 50; (with_reducible refine cm.out.mono ?_); rintro e w2 ⟨rfl, hb2⟩; have hR2 := Lib.hid (below_rb h1.out hb2); have hlw : w.heap.size < w2.heap.size := Nat.lt_of_lt_of_le (by simp) hb2.size; obtain ⟨j0, j1, j2, j3, j4, j5, j6⟩ := hD.out w2 hb2; obtain ⟨g, cap, c2, e0, e1, e2, e3, e4, e5, e6, e7, e8, e9, e10⟩ := hc.out w2 hR2.out; replace hb2 := Lib.hid hb2) | (go_at_call 51; (with_reducible refine (ca.out _ hR2.out).mono ?_); rintro e w3 ⟨rfl, rfl⟩))
    go_ret2
    have hbx := (Below.refl w2.heap.size w2).alloc (Nat.le_refl _) (.cells #[.int .i64 x.d.id, .int .i64 x.d.a, .int .i64 x.d.b, .int .i64 x.d.sc, .int .i64 x.d.bc, .int .i64 x.d.s, .int .i64 x.d.t, .int .i64 x.st, .bool x.byA, .bool x.byB, .int .i64 x.nth] 77)
    exact ⟨hrr.out ▸ rfl, below_rb hR2.out hbx, hb0.out.trans ((hb2.out.trans (hbx.mono hb2.out.size)).mono hb0.out.size)⟩
  have n6 : (x.d.s != d.t) = false := by simpa using m4
  replace m4 := Lib.hid m4
  by_cases m5 : x.d.t = d.s
  rotate_left
  · have n7 : (x.d.t != d.s) = true := by simpa using m5
    have hrr : Hid (r = (false, 12)) := Lib.hid (by rw [← hr, if_pos (by intro e; exact m5 (by rw [e]; rfl))])
    clear hr hs1
    replace m5 := Lib.hid m5
    go_enter Tryz.func24, Tryz.ntmps24
    go_wp2_with (first | (go_at_call 50; (with_reducible refine cm.out.mono ?_); rintro e w2 ⟨rfl, hb2⟩; have hR2 := Lib.hid (below_rb h1.out hb2); have hlw : w.heap.size < w2.heap.size := Nat.lt_of_lt_of_le (by simp) hb2.size; obtain ⟨j0, j1, j2, j3, j4, j5, j6⟩ := hD.out w2 hb2; obtain ⟨g, cap, c2, e0, e1, e2, e3, e4, e5, e6, e7, e8, e9, e10⟩ := hc.out w2 hR2.out; replace hb2 := Lib.hid hb2) | (go_at_call 51; (with_reducible refine (ca.out _ hR2.out).mono ?_); rintro e w3 ⟨rfl, rfl⟩))
    go_ret2
    have hbx := (Below.refl w2.heap.size w2).alloc (Nat.le_refl _) (.cells #[.int .i64 x.d.id, .int .i64 x.d.a, .int .i64 x.d.b, .int .i64 x.d.sc, .int .i64 x.d.bc, .int .i64 x.d.s, .int .i64 x.d.t, .int .i64 x.st, .bool x.byA, .bool x.byB, .int .i64 x.nth] 77)
    exact ⟨hrr.out ▸ rfl, below_rb hR2.out hbx, hb0.out.trans ((hb2.out.trans (hbx.mono hb2.out.size)).mono hb0.out.size)⟩
  have n7 : (x.d.t != d.s) = false := by simpa using m5
  replace m5 := Lib.hid m5
  exfalso
  have hd : d = x.d.mir := by
    have a0 := m0.out; have a1 := m1.out; have a2 := m2.out; have a3 := m3.out; have a4 := m4.out; have a5 := m5.out
    have a6 := hidq.out
    obtain ⟨i1, i2, i3, i4, i5, i6, i7⟩ := d
    unfold Dl.mir
    simp only [Dl.mk.injEq]
    dsimp only at *
    omega
  rw [if_neg (fun hne => hne hd)] at hr
  rcases hs1 with h | h <;> rw [← hr] at h <;> simp at h
end
end Go.Proofs.YthocnlalahknjaaGreat.Dd
namespace Go.Proofs.YthocnlalahknjaaGreat.Dd
open Go.RowKit
set_option linter.unusedVariables false
section
variable {P : Nat → Prop} {w : World} {rb : Nat} {b : Bk} {v : Value}
theorem rsub_any (h : RB P w rb b) (d : Dl) (hlen : b.l.length ≤ 200) (hmany : b.many ≤ 1000) (hf : ∀ j, w.heap.size ≤ j → P j) :
    Calls Tryz.prog 24 #[.pointer (some ⟨rb, 0, none⟩), d.val] w fun e w' => e = .returned (.tuple #[.bool (b.sub d).1.1, .int .i64 (b.sub d).1.2]) ∧ RB P w' rb (b.sub d).2 ∧ Kp P w w' := by
  rcases hm : mayB d b.mem b.cur with _ | _
  · exact (rsub_arg h d hm).mono fun e w' ⟨h1, h2, h3⟩ => ⟨h1, h2, Kp.of_below h3⟩
  · rcases ha : atL b.l d.id with _ | i
    · by_cases h2 : 200 ≤ b.l.length
      · exact (rsub_many h d hm ha h2 (by omega)).mono fun e w' ⟨h1, h2, h3⟩ => ⟨h1, h2, Kp.of_below h3⟩
      · have e : b.sub d = ((false, 0), { b with l := b.l ++ [⟨d, 1, 0, 0⟩] }) := by unfold Bk.sub; rw [if_neg (by rw [hm]; simp), ha]; dsimp only; rw [if_neg h2]
        rw [e]; exact rsub_new h d hm ha (by omega) (by omega) hf
    · obtain ⟨hi, -⟩ := atL_some ha
      have e0 : b.sub d = if (b.l.getD i default).st ≠ 1 ∨ (b.l.getD i default).d.a = d.a then ((false, 6), b) else if d ≠ (b.l.getD i default).d.mir then ((false, 12), b) else ((true, 0), { b with l := b.l.set i { b.l.getD i default with st := 2, nth := (b.many : Int) + 1 }, many := b.many + 1 }) := by
        unfold Bk.sub; rw [if_neg (by rw [hm]; simp), ha]
      by_cases ht : (b.l.getD i default).st ≠ 1 ∨ (b.l.getD i default).d.a = d.a
      · rw [if_pos ht] at e0
        exact (rsub_no h d hm ha (by omega) (by rw [e0]; exact ⟨rfl, .inl rfl⟩)).mono fun e w' ⟨h1, h2, h3⟩ => ⟨h1, h2, Kp.of_below h3⟩
      · rw [if_neg ht] at e0
        by_cases hu : d ≠ (b.l.getD i default).d.mir
        · rw [if_pos hu] at e0
          exact (rsub_no h d hm ha (by omega) (by rw [e0]; exact ⟨rfl, .inr rfl⟩)).mono fun e w' ⟨h1, h2, h3⟩ => ⟨h1, h2, Kp.of_below h3⟩
        · rw [if_neg hu] at e0
          rw [e0]
          have hg : b.l[i]? = some (b.l.getD i default) := by rw [getD_at hi, List.getElem?_eq_getElem hi]
          refine rsub_yes h d hm ha (by omega) hmany hf ?_ ?_ ?_
          · rw [hg]; simp only [Option.map_some, Option.some.injEq]; omega
          · rw [hg]; simp only [Option.map_some, Option.some.injEq]; exact (Decidable.not_not.1 hu).symm
          · rw [hg]; simp only [Option.map_some, ne_eq, Option.some.injEq]; exact fun e => ht (.inr e)
end
end Go.Proofs.YthocnlalahknjaaGreat.Dd
