/- SettleFirst. -/
import Derived.Test.YtiehbbhjpcnbnaaGreatSK
import Derived.BigQuiet
namespace Go.Proofs.YtiehbbhjpcnbnaaGreat
open Go.RowKit
set_option linter.unusedVariables false

/-! plainly -/
theorem passL_mem : ∀ {ids : List Int} {s : ST} {x : Int}, x ∈ (passL s ids).1 → x ∈ ids
  | [], s, x, h => by simp [passL] at h
  | y :: r, s, x, h => by
    unfold passL at h
    split at h
    · rcases List.mem_cons.1 h with rfl | h
      · simp
      · exact List.mem_cons_of_mem _ (passL_mem h)
    · exact List.mem_cons_of_mem _ (passL_mem h)
theorem all_nodup {b : Dd.Bk} (h : b.Ok) (st : Int) : (b.all st).Nodup := by
  have h1 : ((b.l.filter fun e => decide (e.st = st)).map (·.d.id)).Nodup := List.Nodup.sublist ((List.filter_sublist (l := b.l) (p := fun e => decide (e.st = st))).map _) h.ids
  unfold Dd.Bk.all
  dsimp only
  split
  · unfold Dd.lowest
    exact ((List.mergeSort_perm _ _).map _).nodup_iff.2 h1
  · exact h1
theorem pass_no {s : ST} (h : s.Ok) {x : Int} {r : List Int} (hn : (tryS s x).1 ≠ 0) : passL s (x :: r) = passL s r := by
  rw [passL, if_neg hn, try_err h hn]
theorem first_nil {s : ST} (h : s.Ok) {l0 : Int} {r : List Int} (ha : s.b.all 2 = l0 :: r) (hc : (cycS s).1 = []) : (tryS s l0).1 ≠ 0 := by
  intro h0
  have e : (passS s).1 = l0 :: (passL (tryS s l0).2 r).1 := by unfold passS; rw [ha, passL, if_pos h0]
  rw [cyc_step h, e, if_neg (by simp)] at hc
  simp at hc
theorem first_cons {s : ST} (h : s.Ok) {l0 a : Int} {r t : List Int} (ha : s.b.all 2 = l0 :: r) (hc : (cycS s).1 = a :: t) : (tryS s l0).1 = 0 ↔ a = l0 := by
  have hnd := all_nodup h.b 2
  rw [ha] at hnd
  have hl := (List.nodup_cons.1 hnd).1
  constructor
  · intro h0
    have e : (passS s).1 = l0 :: (passL (tryS s l0).2 r).1 := by unfold passS; rw [ha, passL, if_pos h0]
    rw [cyc_step h, e, if_neg (by simp)] at hc
    simp at hc
    exact hc.1.symm
  · intro e
    subst e
    apply Classical.byContradiction
    intro hn
    have e : passS s = passL s r := by unfold passS; rw [ha, pass_no h hn]
    rw [cyc_step h, e] at hc
    split at hc
    · simp at hc
    · rename_i hne
      cases hp : (passL s r).1 with
      | nil => exact hne hp
      | cons y t' =>
        rw [hp] at hc
        simp at hc
        have : y ∈ (passL s r).1 := by rw [hp]; simp
        exact hl (hc.1 ▸ passL_mem this)
theorem all_row {W : World} {u : Value} {zs : List Int} (h : Dd.IRow W u zs) {k : Nat} (hk : k < zs.length) : ∃ g cap, u = .slice (some ⟨g, 0, none⟩) zs.length cap ∧ W.cell? ⟨g, k, none⟩ = some (.int .i64 zs[k]) := by
  obtain ⟨p, cap, rfl, _, _, hp⟩ := Dd.orow_shape h
  rcases h.2 with ⟨e, h0⟩ | ⟨g, cap', cur, e, _⟩
  · omega
  · injection e with e1 e2 e3
    subst e1
    have := Dd.IRow.at_ h (g := g) (k := k) rfl hk
    rw [List.getD_eq_getElem?_getD, List.getElem?_eq_getElem hk] at this
    exact ⟨g, cap, rfl, this⟩
set_option maxHeartbeats 8000000 in
set_option maxRecDepth 100000 in
theorem settleFirst_any (x : BV) (w : World) (h : x.In w) : Calls Tryz.prog 6 #[x.val] w fun e w' => e = .returned (.bool true) ∧ Below w.heap.size w w' := by
  have hn := heap_alloc_new w x.obj
  have hB : Below w.heap.size w (w.alloc x.obj) := (Below.refl _ _).alloc (Nat.le_refl _) _
  have hs : (w.alloc x.obj).heap.size = w.heap.size + 1 := by simp
  have hi := h.kept hB
  have hA := awake_any (w.alloc x.obj)
  have hM := fun W (hb : Below w.heap.size w W) => made_any x W (h.kept hb)
  unfold BV.obj BV.val at *
  replace hM := Lib.hid hM
  replace h := Lib.hid h
  go_enter Tryz.func6, Tryz.ntmps6
  go_upto_region 1 with fail
  generalize w.alloc _ = w0 at *
  replace hi := Lib.hid hi
  go_upto_region 3 with (go_at_call 7; (with_reducible refine hA.mono ?_); rintro e w1 ⟨rfl, hb1⟩)
  have k0 : w1.cell? ⟨w.heap.size, 0, none⟩ = some (.slice x.p1 x.n1 x.c1) := (hb1.cell (p := ⟨w.heap.size, 0, none⟩) (obj_lt hn)).trans (obj_cell hn rfl)
  have k1 : w1.cell? ⟨w.heap.size, 1, none⟩ = some (.slice x.p2 x.n2 x.c2) := (hb1.cell (p := ⟨w.heap.size, 1, none⟩) (obj_lt hn)).trans (obj_cell hn rfl)
  have k2 : w1.cell? ⟨w.heap.size, 2, none⟩ = some (.slice x.p3 x.n3 x.c3) := (hb1.cell (p := ⟨w.heap.size, 2, none⟩) (obj_lt hn)).trans (obj_cell hn rfl)
  have k3 : w1.cell? ⟨w.heap.size, 3, none⟩ = some (.slice x.p4 x.n4 x.c4) := (hb1.cell (p := ⟨w.heap.size, 3, none⟩) (obj_lt hn)).trans (obj_cell hn rfl)
  have hB1 := hB.trans (hb1.mono hB.size)
  have c8 := hM.out w1 hB1
  have hxl : w.heap.size < w1.heap.size := by have := hb1.size; omega
  replace hb1 := Lib.hid hb1
  replace hn := Lib.hid hn
  clear hA
  by_cases hg : x.Good
  · have c8' : Calls Tryz.prog 8 #[.agg #[.slice x.p1 x.n1 x.c1, .slice x.p2 x.n2 x.c2, .slice x.p3 x.n3 x.c3, .slice x.p4 x.n4 x.c4]] w1 fun e w' => ∃ c, e = .returned (.tuple #[.pointer (some ⟨c.gb, 0, none⟩), .pointer (some ⟨c.kb, 0, none⟩)]) ∧ PS (fun j => j < w1.heap.size) c x.st w' ∧ Below w1.heap.size w1 w' := c8.mono fun e w' ⟨h1, _, h3⟩ => by
      obtain ⟨c, e1, e2⟩ := h1 hg
      exact ⟨c, e1, e2, h3⟩
    replace c8' := Lib.hid c8'
    replace hg := Lib.hid hg
    replace hB1 := Lib.hid hB1
    clear c8
    go_upto_region 6 with (go_at_call 8; (with_reducible refine c8'.out.mono ?_); rintro e w2 ⟨c, rfl, hS2, hb2⟩)
    have c12 := hS2.all 2
    replace c12 := Lib.hid c12
    have q0 := (hb2.cell (p := ⟨w.heap.size, 0, none⟩) hxl).trans k0
    have q1 := (hb2.cell (p := ⟨w.heap.size, 1, none⟩) hxl).trans k1
    have q2 := (hb2.cell (p := ⟨w.heap.size, 2, none⟩) hxl).trans k2
    have q3 := (hb2.cell (p := ⟨w.heap.size, 3, none⟩) hxl).trans k3
    replace hS2 := Lib.hid hS2
    replace hb2 := Lib.hid hb2
    clear k0 k1 k2 k3
    go_upto_region 7 with (go_at_call 12; (with_reducible refine c12.out.mono ?_); rintro e w3 ⟨u, rfl, hz⟩; obtain ⟨p, cap, hu, -, -, hps⟩ := Dd.orow_shape hz.row; subst hu)
    have hok := hS2.out.ok
    have hlen : (x.st.b.all 2).length ≤ 200 := Nat.le_trans (all_len _ _) hok.b.len
    rcases hids : x.st.b.all 2 with _ | ⟨l0, r⟩
    · rw [hids] at hz
      replace hz := Lib.hid hz
      replace hids := Lib.hid hids
      go_wp2_with fail
      go_ret
      exact ⟨rfl, hB1.out.trans ((hb2.out.trans (hz.out.bl.mono hb2.out.size)).mono hB1.out.size)⟩
    · rw [hids] at hz hlen
      have hl0 : In64 l0 := hok.id64 (st := 2) (by rw [hids]; simp)
      obtain ⟨g, cap', eu, r0⟩ := all_row hz.row (k := 0) (by simp)
      have eu' : p = some ⟨g, 0, none⟩ := by injection eu
      subst eu'
      have hzn : (((l0 :: r).length : Nat) : Int) ≠ 0 := by simp; omega
      have hzb : ((((l0 :: r).length : Nat) : Int) == 0) = false := by simpa using hzn
      have hbz := hz.bl
      have hgl := (World.ownsRow.lt hz.row g rfl).2
      have hgo := hz.own g rfl
      have r0' : w3.cell? ⟨g, 0, none⟩ = some (.int .i64 l0) := r0
      have p0 := (hbz.cell (p := ⟨w.heap.size, 0, none⟩) (Nat.lt_of_lt_of_le hxl hb2.out.size)).trans q0
      have p1 := (hbz.cell (p := ⟨w.heap.size, 1, none⟩) (Nat.lt_of_lt_of_le hxl hb2.out.size)).trans q1
      have p2 := (hbz.cell (p := ⟨w.heap.size, 2, none⟩) (Nat.lt_of_lt_of_le hxl hb2.out.size)).trans q2
      have p3 := (hbz.cell (p := ⟨w.heap.size, 3, none⟩) (Nat.lt_of_lt_of_le hxl hb2.out.size)).trans q3
      have hS3 : PS (fun j => j < w1.heap.size ∨ j = g) c x.st w3 := hS2.out.more hbz fun j hj => hj.imp id fun e => by subst e; exact ⟨hgo, hgl⟩
      have hB3 : Below w.heap.size w w3 := hB1.out.trans ((hb2.out.trans (hbz.mono hb2.out.size)).mono hB1.out.size)
      have c8b : Calls Tryz.prog 8 #[.agg #[.slice x.p1 x.n1 x.c1, .slice x.p2 x.n2 x.c2, .slice x.p3 x.n3 x.c3, .slice x.p4 x.n4 x.c4]] w3 fun e w' => ∃ c, e = .returned (.tuple #[.pointer (some ⟨c.gb, 0, none⟩), .pointer (some ⟨c.kb, 0, none⟩)]) ∧ PS (fun j => j < w3.heap.size) c x.st w' ∧ Below w3.heap.size w3 w' := (hM.out w3 hB3).mono fun e w' ⟨h1, _, h3⟩ => by
        obtain ⟨c, e1, e2⟩ := h1 hg.out
        exact ⟨c, e1, e2, h3⟩
      have hN1 := first_nil hok hids
      have hN2 := fun a t => first_cons (a := a) (t := t) hok hids
      replace c8b := Lib.hid c8b
      replace hS3 := Lib.hid hS3
      replace hB3 := Lib.hid hB3
      replace hz := Lib.hid hz
      replace hbz := Lib.hid hbz
      replace hids := Lib.hid hids
      replace hok := Lib.hid hok
      replace hN1 := Lib.hid hN1
      replace hN2 := Lib.hid hN2
      replace hgl := Lib.hid hgl
      replace hgo := Lib.hid hgo
      replace hzn := Lib.hid hzn
      clear q0 q1 q2 q3 eu r0
      go_upto_region 12 with (go_at_call 8; (with_reducible refine c8b.out.mono ?_); rintro e w4 ⟨c', rfl, hS4, hb4⟩)
      have r4 := (hb4.cell (p := ⟨g, 0, none⟩) hgl.out).trans r0'
      have c18 := hS4.tryc hl0
      generalize het : (tryS x.st l0).1 = et at *
      replace het := Lib.hid het
      have c18' : Calls Tryz.prog 18 #[.pointer (some ⟨c'.gb, 0, none⟩), .pointer (some ⟨c'.kb, 0, none⟩), .int .i64 l0] w4 fun e w' => e = .returned (.int .i64 et) ∧ Below w3.heap.size w3 w' := c18.mono fun e w' ⟨e1, _, e3⟩ => ⟨by rw [← het.out]; exact e1, hb4.trans (e3.below hb4.size fun j hj hn => hn hj)⟩
      replace c18' := Lib.hid c18'
      replace hS4 := Lib.hid hS4
      replace hb4 := Lib.hid hb4
      clear c18
      go_upto_region 13 with (go_at_call 18; (with_reducible refine c18'.out.mono ?_); rintro e w5 ⟨rfl, hb5⟩)
      have c13 := (hS3.out.below hb5).cycle
      have r5 := (hb5.cell (p := ⟨g, 0, none⟩) hgl.out).trans r0'
      replace hb5 := Lib.hid hb5
      replace c13 := Lib.hid c13
      go_upto_region 14 with (go_at_call 13; (with_reducible refine c13.out.mono ?_); rintro e w6 ⟨u2, rfl, hr6, hS6, hk6⟩)
      have r6 : w6.cell? ⟨g, 0, none⟩ = some (.int .i64 l0) := (hk6.cell r5 (fun hn => hn (.inr rfl)))
      have hB6 : Below w.heap.size w w6 := (hB3.out.trans (hb5.out.mono hB3.out.size)).trans (hk6.below (Nat.le_trans hB3.out.size hb5.out.size) fun j hj hn => hn (.inl (by omega)))
      replace hS6 := Lib.hid hS6
      replace hk6 := Lib.hid hk6
      replace hB6 := Lib.hid hB6
      rcases hc : (cycS x.st).1 with _ | ⟨a, t⟩
      · have hne := hN1.out hc
        have heb : (et == 0) = false := by simpa using hne
        rw [hc] at hr6
        obtain ⟨p', cap2, rfl, -, -, -⟩ := Dd.orow_shape hr6
        replace hr6 := Lib.hid hr6
        replace hne := Lib.hid hne
        go_quiet (fail)
        all_goals go_wp2_with fail
        all_goals go_ret
        all_goals refine ⟨?_, ⟨hB6.out.os, hB6.out.tape, hB6.out.output, hB6.out.size, hB6.out.block⟩⟩
        all_goals rfl
      · have hiff := hN2.out a t hc
        rw [hc] at hr6
        obtain ⟨g2, cap2, rfl, m0⟩ := all_row hr6 (k := 0) (by simp)
        have m0' : w6.cell? ⟨g2, 0, none⟩ = some (.int .i64 a) := m0
        have hpos : (0 : Int) < (((a :: t).length : Nat) : Int) := by simp
        have hposd : decide ((0 : Int) < (((a :: t).length : Nat) : Int)) = true := decide_eq_true hpos
        have hnl : 0 < (a :: t).length := by simp
        have hnr : 0 < (l0 :: r).length := by simp
        replace hr6 := Lib.hid hr6
        clear m0
        by_cases e0 : et = 0
        · obtain rfl := hiff.1 e0
          subst e0
          replace hiff := Lib.hid hiff
          go_quiet (fail)
          all_goals go_wp2_with fail
          all_goals go_ret
          all_goals refine ⟨?_, ⟨hB6.out.os, hB6.out.tape, hB6.out.output, hB6.out.size, hB6.out.block⟩⟩
          all_goals rfl
        · have heb : (et == 0) = false := by simpa using e0
          have hab : (a == l0) = false := by simpa using fun e => e0 (hiff.2 e)
          replace hiff := Lib.hid hiff
          replace e0 := Lib.hid e0
          go_quiet (fail)
          all_goals go_wp2_with fail
          all_goals go_ret
          all_goals refine ⟨?_, ⟨hB6.out.os, hB6.out.tape, hB6.out.output, hB6.out.size, hB6.out.block⟩⟩
          all_goals rfl
  · have c8' : Calls Tryz.prog 8 #[.agg #[.slice x.p1 x.n1 x.c1, .slice x.p2 x.n2 x.c2, .slice x.p3 x.n3 x.c3, .slice x.p4 x.n4 x.c4]] w1 fun e w' => e = .returned (.tuple #[.pointer none, .pointer none]) ∧ Below w1.heap.size w1 w' := c8.mono fun e w' ⟨_, h2, h3⟩ => ⟨h2 hg, h3⟩
    replace c8' := Lib.hid c8'
    replace hg := Lib.hid hg
    replace hB1 := Lib.hid hB1
    clear c8
    go_wp2_with (go_at_call 8; (with_reducible refine c8'.out.mono ?_); rintro e w2 ⟨rfl, hb2⟩; replace hb2 := Lib.hid hb2)
    go_ret
    exact ⟨rfl, hB1.out.trans (hb2.out.mono hB1.out.size)⟩
end Go.Proofs.YtiehbbhjpcnbnaaGreat
