/- SettleBoth. -/
import Derived.Test.YtiehbbhjpcnbnaaGreatSP
namespace Go.Proofs.YtiehbbhjpcnbnaaGreat
open Go.RowKit
set_option linter.unusedVariables false

set_option maxHeartbeats 8000000 in
set_option maxRecDepth 100000 in
theorem settleBoth_any (x : BV) (w : World) (h : x.In w) : Calls Tryz.prog 3 #[x.val] w fun e w' => e = .returned (.bool true) ∧ Below w.heap.size w w' := by
  have hn := heap_alloc_new w x.obj
  have hB : Below w.heap.size w (w.alloc x.obj) := (Below.refl _ _).alloc (Nat.le_refl _) _
  have hs : (w.alloc x.obj).heap.size = w.heap.size + 1 := by simp
  have hA := awake_any (w.alloc x.obj)
  have hM := fun W (hb : Below w.heap.size w W) => made_any x W (h.kept hb)
  unfold BV.obj BV.val at *
  replace hM := Lib.hid hM
  replace h := Lib.hid h
  go_enter Tryz.func3, Tryz.ntmps3
  go_upto_region 1 with fail
  generalize w.alloc _ = w0 at *
  go_upto_region 3 with (go_at_call 7; (with_reducible refine hA.mono ?_); rintro e w1 ⟨rfl, hb1⟩)
  have k0 : w1.cell? ⟨w.heap.size, 0, none⟩ = some (.slice x.p1 x.n1 x.c1) := (hb1.cell (p := ⟨w.heap.size, 0, none⟩) (obj_lt hn)).trans (obj_cell hn rfl)
  have k1 : w1.cell? ⟨w.heap.size, 1, none⟩ = some (.slice x.p2 x.n2 x.c2) := (hb1.cell (p := ⟨w.heap.size, 1, none⟩) (obj_lt hn)).trans (obj_cell hn rfl)
  have k2 : w1.cell? ⟨w.heap.size, 2, none⟩ = some (.slice x.p3 x.n3 x.c3) := (hb1.cell (p := ⟨w.heap.size, 2, none⟩) (obj_lt hn)).trans (obj_cell hn rfl)
  have k3 : w1.cell? ⟨w.heap.size, 3, none⟩ = some (.slice x.p4 x.n4 x.c4) := (hb1.cell (p := ⟨w.heap.size, 3, none⟩) (obj_lt hn)).trans (obj_cell hn rfl)
  have hB1 := hB.trans (hb1.mono hB.size)
  have c8 := hM.out w1 hB1
  replace hb1 := Lib.hid hb1
  replace hn := Lib.hid hn
  clear hA
  by_cases hg : x.Good
  · have c8' : Calls Tryz.prog 8 #[.agg #[.slice x.p1 x.n1 x.c1, .slice x.p2 x.n2 x.c2, .slice x.p3 x.n3 x.c3, .slice x.p4 x.n4 x.c4]] w1 fun e w' => ∃ c, e = .returned (.tuple #[.pointer (some ⟨c.gb, 0, none⟩), .pointer (some ⟨c.kb, 0, none⟩)]) ∧ PS (fun j => j < w1.heap.size) c x.st w' ∧ Below w1.heap.size w1 w' := c8.mono fun e w' ⟨h1, _, h3⟩ => by
      obtain ⟨c, e1, e2⟩ := h1 hg
      exact ⟨c, e1, e2, h3⟩
    replace c8' := Lib.hid c8'
    replace hg := Lib.hid hg
    replace hB1 := Lib.hid hB1
    clear c8
    go_upto_region 6 with (go_at_call 8; (with_reducible refine c8'.out.mono ?_); rintro e w2 ⟨c, rfl, hS2, hb2⟩)
    have hok := hS2.ok
    obtain ⟨hch, hp1, hp2⟩ := cyc_ch x.st.many hok (Nat.le_refl _)
    obtain ⟨a1, a2, a3, a4, a5, a6⟩ := ch_all hch
    rw [← many_eq, ← many_eq] at a4
    have hmany : x.st.many = (x.st.b.all 2).length := rfl
    have hln : (x.st.b.all 2).length ≤ 200 := Nat.le_trans (all_len _ _) hok.b.len
    have hin : ∀ id ∈ (cycS x.st).1, In64 id := fun id hid => by
      have hk := (a3 id hid).2
      obtain ⟨e, he, _, _, e4⟩ := deal_known hok hk
      rw [← e4]; exact (hok.b.may e he).2.1.id
    have hdm : ∀ id ∈ (cycS x.st).1, (x.st.b.deal id).1.In ∧ 1 ≤ (x.st.b.deal id).1.s ∧ 1 ≤ (x.st.b.deal id).1.t := fun id hid => by
      have := deal_may hok (a3 id hid).2
      have h2 := Dd.mayB_iff.1 this.1
      exact ⟨this.2, by omega, by omega⟩
    have c9 := hS2.ledger
    have c11 := hS2.text
    have c10 : ∀ wv, PS (fun j => j < w1.heap.size) c x.st wv → _ := fun wv h => OW.read h
    obtain ⟨st, hsv⟩ : ∃ st, sv x.st.g.l.text = .string st := ⟨_, rfl⟩
    rw [hsv] at c11 c10
    replace c10 := Lib.hid c10
    replace hb2 := Lib.hid hb2
    replace hok := Lib.hid hok
    replace hch := Lib.hid hch
    replace hsv := Lib.hid hsv
    clear k0 k1 k2 k3
    go_upto_region 9 with (first | (go_at_call 9; (with_reducible refine c9.mono ?_); rintro e v' ⟨rfl, rfl⟩))
    go_upto_region 10 with (first | (go_at_call 11; (with_reducible refine c11.mono ?_); rintro e w3 ⟨rfl, hb3⟩; have c10' := Lib.hid (c10.out w3 (hS2.below hb3)); replace hb3 := Lib.hid hb3) | (go_at_call 10; (with_reducible refine c10'.out.mono ?_); rintro e w4 ⟨ob, rfl, hO4, hb4⟩))
    have hB4 : Below w1.heap.size w1 w4 := hb2.out.trans ((hb3.out.trans (hb4.mono hb3.out.size)).mono hb2.out.size)
    have c12 := hO4.ps.all 2
    replace hS2 := Lib.hid hS2
    replace hb4 := Lib.hid hb4
    replace hO4 := Lib.hid hO4
    replace hB4 := Lib.hid hB4
    go_upto_region 11 with (go_at_call 12; (with_reducible refine c12.mono ?_); rintro e w5 ⟨u1, rfl, hz⟩; obtain ⟨p1', cap1, hu1, -, -, -⟩ := Dd.orow_shape hz.row; subst hu1)
    have hO5 := hO4.out.more (K' := fun j => j < w1.heap.size) hz.bl fun j hj => .inl hj
    have hB5 : Below w1.heap.size w1 w5 := hB4.out.trans (hz.bl.mono hB4.out.size)
    have c13 := hO5.cycle
    replace hO5 := Lib.hid hO5
    replace hB5 := Lib.hid hB5
    replace hz := Lib.hid hz
    have hpn := hp1
    generalize hids : (cycS x.st).1 = ids at *
    generalize hpas : (cycS x.st).2.1 = pas at *
    generalize (cycS x.st).2.2 = s1 at *
    rw [hmany] at hp2
    have hle : ids.length ≤ (x.st.b.all 2).length := by omega
    have hfin : s1.b.all 2 = s1.b.all 2 := rfl
    generalize hml : (x.st.b.all 2).length = ml at *
    replace hids := Lib.hid hids
    replace hpas := Lib.hid hpas
    replace hml := Lib.hid hml
    replace hmany := Lib.hid hmany
    replace a1 := Lib.hid a1
    replace a2 := Lib.hid a2
    replace a3 := Lib.hid a3
    replace a4 := Lib.hid a4
    replace a5 := Lib.hid a5
    replace a6 := Lib.hid a6
    replace hin := Lib.hid hin
    replace hdm := Lib.hid hdm
    clear hfin
    go_upto_region 12 with (go_at_call 13; (with_reducible refine c13.mono ?_); rintro e w6 ⟨u2, rfl, hr6, hO6, hk6⟩; obtain ⟨p2', cap2, hu2, -, -, -⟩ := Dd.orow_shape hr6; subst hu2)
    have hB6 : Below w1.heap.size w1 w6 := hB5.out.trans (hk6.below hB5.out.size fun j hj hn => hn hj)
    have f1 : ¬ pas < 1 := by omega
    have f2 : wrap64 ((ml : Int) + 1) = (ml : Int) + 1 := by unfold wrap64; omega
    have f3 : ¬ (ml : Int) + 1 < pas := by omega
    have f4 : ¬ (ml : Int) < (ids.length : Int) := by omega
    replace hr6 := Lib.hid hr6
    replace hO6 := Lib.hid hO6
    replace hk6 := Lib.hid hk6
    replace hB6 := Lib.hid hB6
    replace hp1 := Lib.hid hp1
    replace hp2 := Lib.hid hp2
    replace hle := Lib.hid hle
    replace hpn := Lib.hid hpn
    go_upto_region 14 with fail
    go_wp2_with fail
    go_loopw [12, 13, 14, 72] (fun a b e d wr => ∃ k : Nat, d = .int .i64 (k : Nat) ∧ k ≤ ids.length ∧ OW (fun j => j < w1.heap.size ∨ (Value.slice p2' ids.length cap2).ownBlock = some j) c s1 ob (postF (fun id => (x.st.b.deal id).1) x.st.g.l (ids.take k)) wr ∧ Dd.IRow wr (.slice p2' ids.length cap2) ids ∧ Below w1.heap.size w1 wr) (fun a b e d wr => ids.length - (intOf d).toNat)
    case atStart => exact ⟨0, rfl, by omega, hO6.out, hr6.out, hB6.out⟩
    case round =>
      obtain ⟨k, rfl, hk, hO, hrow, hb7⟩ := hrel
      by_cases hlt : k < ids.length
      · have hlt' : (k : Int) < (ids.length : Int) := by omega
        obtain ⟨g, cap', eu, m0⟩ := all_row hrow hlt
        have eu' : p2' = some ⟨g, 0, none⟩ := by injection eu
        subst eu'
        have hmem := List.getElem_mem hlt
        have i64 := hin.out _ hmem
        obtain ⟨hd1, hd2, hd3⟩ := hdm.out _ hmem
        have hst1 := (a3.out _ hmem).1
        have hkn := (a3.out _ hmem).2
        have hnext := postF_take (D := fun id => (x.st.b.deal id).1) (l := x.st.g.l) hlt
        have hz0 := a6.out k hlt
        generalize ids[k] = id at *
        have c14 := hO.ps.deal i64
        rw [a1.out id, hkn] at c14
        have hrw : ∀ wv, Kp (fun j => ¬ (j < w1.heap.size ∨ (Value.slice (some ⟨g, 0, none⟩) ids.length cap2).ownBlock = some j)) wr wv → Dd.IRow wv (.slice (some ⟨g, 0, none⟩) ids.length cap2) ids ∧ Below w1.heap.size w1 wv := fun wv hk => ⟨irow_kept hrow fun g' hg' => hk.block g' (World.ownsRow.lt hrow g' hg').2 fun hn => hn (.inr hg'), hb7.trans (hk.below hb7.size fun j hj hn => hn (.inl hj))⟩
        generalize hDe : (x.st.b.deal id).1 = D at *
        have hbox : ∀ wv, Below wr.heap.size wr wv → Below wr.heap.size wr (wv.alloc D.obj) := fun wv hb => hb.trans (((Below.refl _ wv).alloc (Nat.le_refl _) _).mono hb.size)
        have c15 : ∀ wv, Below wr.heap.size wr wv → Calls Tryz.prog 15 #[.pointer (some ⟨c.kb, 0, none⟩), .int .i64 id] wv fun e w' => e = .returned (.int .i64 3) ∧ wv = w' := fun wv hb => by
          have := (hO.ps.below hb).state i64
          rw [hst1] at this
          exact this
        have c17 := fun wv => legs_any D hd1 hd2 hd3 wv
        have c16 : ∀ b wv, PRow wv (some ⟨b, 0, none⟩) 4 (legs D) → Below wr.heap.size wr wv → Calls Tryz.prog 16 #[.pointer (some ⟨ob, 0, none⟩), .slice (some ⟨b, 0, none⟩) 4 4] wv fun e w' => e = .returned (.int .i64 0) ∧ OW (fun j => j < w1.heap.size ∨ (Value.slice (some ⟨g, 0, none⟩) ids.length cap2).ownBlock = some j) c s1 ob (postF (fun id => (x.st.b.deal id).1) x.st.g.l (ids.take (k + 1))) w' ∧ Kp (fun j => ¬ (j < w1.heap.size ∨ (Value.slice (some ⟨g, 0, none⟩) ids.length cap2).ownBlock = some j)) wr w' := fun b wv hr hb => by
          refine ((hO.below hb).post 4 hr (by omega)).mono fun e w' ⟨e1, e2, e3⟩ => ?_
          rw [hz0] at e1
          rw [← hnext] at e2
          exact ⟨e1, e2, (Kp.of_below hb).trans e3⟩
        unfold Dd.Dl.obj at hbox
        unfold Dd.Dl.val at c14 c17
        replace c15 := Lib.hid c15
        replace c16 := Lib.hid c16
        replace c17 := Lib.hid c17
        replace hbox := Lib.hid hbox
        replace hrw := Lib.hid hrw
        replace hO := Lib.hid hO
        replace hrow := Lib.hid hrow
        replace hb7 := Lib.hid hb7
        replace hDe := Lib.hid hDe
        replace hst1 := Lib.hid hst1
        replace hkn := Lib.hid hkn
        replace hnext := Lib.hid hnext
        replace hz0 := Lib.hid hz0
        clear eu
        go_upto_region 18 with (go_at_call 14; (with_reducible refine c14.mono ?_); rintro e v1 ⟨rfl, hbv⟩)
        have hb8 := hbox.out v1 hbv
        have hnb := heap_alloc_new v1 D.obj
        obtain ⟨n0, n1, n2, n3, n4, n5, n6⟩ := Dd.boxD _ _ D hnb
        unfold Dd.Dl.obj at *
        have c15' := c15.out _ hb8
        have c17' := c17.out (v1.alloc (.cells #[.int .i64 D.id, .int .i64 D.a, .int .i64 D.b, .int .i64 D.sc, .int .i64 D.bc, .int .i64 D.s, .int .i64 D.t] 44))
        generalize v1.alloc _ = v2 at *
        replace hnb := Lib.hid hnb
        replace hb8 := Lib.hid hb8
        replace hbv := Lib.hid hbv
        go_wp2_with (first | (go_at_call 15; (with_reducible refine c15'.mono ?_); rintro e v' ⟨rfl, rfl⟩) | (go_at_call 17; (with_reducible refine c17'.mono ?_); rintro e v3 ⟨b, rfl, g1, g2, hr, hb9⟩; have c16' := Lib.hid (c16.out b v3 hr (hb8.out.trans (hb9.mono hb8.out.size))); replace hr := Lib.hid hr; replace hb9 := Lib.hid hb9) | (go_at_call 16; (with_reducible refine c16'.out.mono ?_); rintro e v4 ⟨rfl, hO4', hk4⟩; replace hO4' := Lib.hid hO4'; replace hk4 := Lib.hid hk4))
        go_roundw
        case rel => exact ⟨k + 1, by go_num, by omega, hO4'.out, (hrw.out _ hk4.out).1, (hrw.out _ hk4.out).2⟩
        case measure => simp only [intOf, Int.toNat_natCast]; exact Nat.sub_lt_sub_left hlt (by simp)
      · obtain rfl : k = ids.length := by omega
        have hirr : ¬ ((ids.length : Nat) : Int) < ((ids.length : Nat) : Int) := by omega
        rw [List.take_length, a5.out] at hO
        have cT1 := hO.text
        have cT2 : ∀ wv, Below wr.heap.size wr wv → _ := fun wv hb => (hO.ps.below hb).text
        have cA : ∀ wv, Below wr.heap.size wr wv → _ := fun wv hb => (hO.ps.below hb).all 2
        obtain ⟨s2, hs2⟩ : ∃ s2, sv s1.g.l.text = .string s2 := ⟨_, rfl⟩
        rw [hs2] at cT1 cT2
        have h4 := a4.out
        have f5 : ((s1.b.all 2).length : Int) = (ml : Int) - (ids.length : Int) := by omega
        have f6 : wrap64 ((ml : Int) - (ids.length : Int)) = (ml : Int) - (ids.length : Int) := by unfold wrap64; omega
        have f7 : (((s1.b.all 2).length : Int) == (ml : Int) - (ids.length : Int)) = true := by simpa using f5
        replace cT2 := Lib.hid cT2
        replace cA := Lib.hid cA
        replace hO := Lib.hid hO
        replace hrow := Lib.hid hrow
        replace hb7 := Lib.hid hb7
        replace h4 := Lib.hid h4
        replace f5 := Lib.hid f5
        replace hs2 := Lib.hid hs2
        go_wp2_with (first | (go_at_call 11; (first | ((with_reducible refine cT1.mono ?_); rintro e v1 ⟨rfl, hb8⟩; have cT2' := cT2.out v1 hb8; replace hb8 := Lib.hid hb8; clear cT1) | ((with_reducible refine cT2'.mono ?_); rintro e v2 ⟨rfl, hb9⟩; have hb10 := hb8.out.trans (hb9.mono hb8.out.size); have cA' := cA.out v2 hb10; replace hb9 := Lib.hid hb9; replace hb10 := Lib.hid hb10))) | (go_at_call 12; (with_reducible refine cA'.mono ?_); rintro e v3 ⟨u3, rfl, hz3⟩; obtain ⟨p3', cap3, hu3, -, -, -⟩ := Dd.orow_shape hz3.row; subst hu3; replace hz3 := Lib.hid hz3))
        go_ret
        exact ⟨by simp, hB1.out.trans ((hb7.out.trans ((hb10.out.trans (hz3.out.bl.mono hb10.out.size)).mono hb7.out.size)).mono hB1.out.size)⟩
  · have c8' : Calls Tryz.prog 8 #[.agg #[.slice x.p1 x.n1 x.c1, .slice x.p2 x.n2 x.c2, .slice x.p3 x.n3 x.c3, .slice x.p4 x.n4 x.c4]] w1 fun e w' => e = .returned (.tuple #[.pointer none, .pointer none]) ∧ Below w1.heap.size w1 w' := c8.mono fun e w' ⟨_, h2, h3⟩ => ⟨h2 hg, h3⟩
    replace c8' := Lib.hid c8'
    replace hg := Lib.hid hg
    replace hB1 := Lib.hid hB1
    clear c8
    go_wp2_with (go_at_call 8; (with_reducible refine c8'.out.mono ?_); rintro e w2 ⟨rfl, hb2⟩; replace hb2 := Lib.hid hb2)
    go_ret
    exact ⟨rfl, hB1.out.trans (hb2.out.mono hB1.out.size)⟩
end Go.Proofs.YtiehbbhjpcnbnaaGreat
