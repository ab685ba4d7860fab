/- SettleEnds. -/
import Derived.Test.YtiehbbhjpcnbnaaGreatSN
namespace Go.Proofs.YtiehbbhjpcnbnaaGreat
open Go.RowKit
set_option linter.unusedVariables false

theorem DoneS_iff {K : Nat → Prop} {c : GC} {r : Int × ST} {w : World} : DoneS K c r w = fun e w' => e = .returned (.int .i64 r.1) ∧ PS K c r.2 w' ∧ Kp (fun j => ¬ K j) w w' := rfl
set_option maxHeartbeats 8000000 in
set_option maxRecDepth 100000 in
theorem settleEnds_any (x : BV) (w : World) (h : x.In w) : Calls Tryz.prog 4 #[x.val] w fun e w' => e = .returned (.bool true) ∧ Below w.heap.size w w' := by
  have hn := heap_alloc_new w x.obj
  have hB : Below w.heap.size w (w.alloc x.obj) := (Below.refl _ _).alloc (Nat.le_refl _) _
  have hs : (w.alloc x.obj).heap.size = w.heap.size + 1 := by simp
  have hA := awake_any (w.alloc x.obj)
  have hM := fun W (hb : Below w.heap.size w W) => made_any x W (h.kept hb)
  unfold BV.obj BV.val at *
  replace hM := Lib.hid hM
  replace h := Lib.hid h
  go_enter Tryz.func4, Tryz.ntmps4
  go_upto_region 1 with fail
  generalize w.alloc _ = w0 at *
  go_upto_region 3 with (go_at_call 7; (with_reducible refine hA.mono ?_); rintro e w1 ⟨rfl, hb1⟩)
  have k0 : w1.cell? ⟨w.heap.size, 0, none⟩ = some (.slice x.p1 x.n1 x.c1) := (hb1.cell (p := ⟨w.heap.size, 0, none⟩) (obj_lt hn)).trans (obj_cell hn rfl)
  have k1 : w1.cell? ⟨w.heap.size, 1, none⟩ = some (.slice x.p2 x.n2 x.c2) := (hb1.cell (p := ⟨w.heap.size, 1, none⟩) (obj_lt hn)).trans (obj_cell hn rfl)
  have k2 : w1.cell? ⟨w.heap.size, 2, none⟩ = some (.slice x.p3 x.n3 x.c3) := (hb1.cell (p := ⟨w.heap.size, 2, none⟩) (obj_lt hn)).trans (obj_cell hn rfl)
  have k3 : w1.cell? ⟨w.heap.size, 3, none⟩ = some (.slice x.p4 x.n4 x.c4) := (hb1.cell (p := ⟨w.heap.size, 3, none⟩) (obj_lt hn)).trans (obj_cell hn rfl)
  have hB1 := hB.trans (hb1.mono hB.size)
  have c8 := hM.out w1 hB1
  replace hb1 := Lib.hid hb1
  replace hn := Lib.hid hn
  clear hA
  by_cases hg : x.Good
  · have c8' : Calls Tryz.prog 8 #[.agg #[.slice x.p1 x.n1 x.c1, .slice x.p2 x.n2 x.c2, .slice x.p3 x.n3 x.c3, .slice x.p4 x.n4 x.c4]] w1 fun e w' => ∃ c, e = .returned (.tuple #[.pointer (some ⟨c.gb, 0, none⟩), .pointer (some ⟨c.kb, 0, none⟩)]) ∧ PS (fun j => j < w1.heap.size) c x.st w' ∧ Below w1.heap.size w1 w' := c8.mono fun e w' ⟨h1, _, h3⟩ => by
      obtain ⟨c, e1, e2⟩ := h1 hg
      exact ⟨c, e1, e2, h3⟩
    replace c8' := Lib.hid c8'
    replace hg := Lib.hid hg
    replace hB1 := Lib.hid hB1
    clear c8
    go_upto_region 6 with (go_at_call 8; (with_reducible refine c8'.out.mono ?_); rintro e w2 ⟨c, rfl, hS2, hb2⟩)
    have hok := hS2.ok
    obtain ⟨hok1, hcy, hno⟩ := cyc_twice hok
    have hst : ∀ id ∈ (cycS x.st).2.2.b.all 2, (cycS x.st).2.2.b.state id = 2 := fun id hid => (state_all hok1.b hid).1
    have hcl : ∀ id ∈ (cycS x.st).2.2.b.all 2, (tryS (cycS x.st).2.2 id).1 = 3 ∨ (tryS (cycS x.st).2.2 id).1 = 10 := fun id hid => (try_class hok1 hid).resolve_left (hno id hid)
    have hte : ∀ id ∈ (cycS x.st).2.2.b.all 2, (tryS (cycS x.st).2.2 id).2 = (cycS x.st).2.2 := fun id hid => try_err hok1 (hno id hid)
    have hin : ∀ id ∈ (cycS x.st).2.2.b.all 2, In64 id := fun id hid => hok1.id64 hid
    have hln : ((cycS x.st).2.2.b.all 2).length ≤ 200 := Nat.le_trans (all_len _ _) hok1.b.len
    have c13 : Calls Tryz.prog 13 #[.pointer (some ⟨c.gb, 0, none⟩), .pointer (some ⟨c.kb, 0, none⟩)] w2 fun e w' => ∃ u n, e = .returned (.tuple #[u, .int .i64 n]) ∧ PS (fun j => j < w1.heap.size) c (cycS x.st).2.2 w' ∧ Below w1.heap.size w1 w' := hS2.cycle.mono fun e w' ⟨u, e1, e2, e3, e4⟩ => ⟨u, _, e1, e3.less fun j hj => .inl hj, hb2.trans (e4.below hb2.size fun j hj hn => hn hj)⟩
    generalize (cycS x.st).2.2 = s1 at *
    replace c13 := Lib.hid c13
    replace hS2 := Lib.hid hS2
    replace hb2 := Lib.hid hb2
    replace hno := Lib.hid hno
    replace hst := Lib.hid hst
    replace hcl := Lib.hid hcl
    replace hte := Lib.hid hte
    replace hin := Lib.hid hin
    replace hok := Lib.hid hok
    replace hok1 := Lib.hid hok1
    clear k0 k1 k2 k3
    go_upto_region 7 with (go_at_call 13; (with_reducible refine c13.out.mono ?_); rintro e w3 ⟨u, n, rfl, hS3, hb3⟩)
    have c9 := hS3.ledger
    have c11 : ∀ wv, PS (fun j => j < w1.heap.size) c s1 wv → _ := fun wv h => h.text
    obtain ⟨st, hsv⟩ : ∃ st, sv s1.g.l.text = .string st := ⟨_, rfl⟩
    rw [hsv] at c11
    have c11a := c11 w3 hS3
    have c13b : ∀ wv, PS (fun j => j < w1.heap.size) c s1 wv → Below w1.heap.size w1 wv → Calls Tryz.prog 13 #[.pointer (some ⟨c.gb, 0, none⟩), .pointer (some ⟨c.kb, 0, none⟩)] wv fun e w' => ∃ p cap, e = .returned (.tuple #[.slice p 0 cap, .int .i64 1]) ∧ PS (fun j => j < w1.heap.size) c s1 w' ∧ Below w1.heap.size w1 w' := fun wv h hb => by
      have := h.cycle
      rw [hcy] at this
      refine this.mono fun e w' ⟨u, e1, e2, e3, e4⟩ => ?_
      obtain ⟨p, cap, rfl, -, -, -⟩ := Dd.orow_shape e2
      exact ⟨p, cap, e1, e3.less fun j hj => .inl hj, hb.trans (e4.below hb.size fun j hj hn => hn hj)⟩
    replace c13b := Lib.hid c13b
    replace c11 := Lib.hid c11
    replace hcy := Lib.hid hcy
    replace hsv := Lib.hid hsv
    replace hS3 := Lib.hid hS3
    replace hb3 := Lib.hid hb3
    go_upto_region 11 with (first | (go_at_call 9; (with_reducible refine c9.mono ?_); rintro e v' ⟨rfl, rfl⟩) | (go_at_call 11; (with_reducible refine c11a.mono ?_); rintro e w4 ⟨rfl, hb4⟩))
    have hS4 := hS3.out.below hb4
    have hb4' := hb3.out.trans (hb4.mono hb3.out.size)
    have c13c := c13b.out w4 hS4 hb4'
    replace hS4 := Lib.hid hS4
    replace hb4 := Lib.hid hb4
    replace hb4' := Lib.hid hb4'
    go_upto_region 12 with (go_at_call 13; (with_reducible refine c13c.mono ?_); rintro e w5 ⟨p, cap, rfl, hS5, hb5⟩)
    have c11b := c11.out w5 hS5
    replace hS5 := Lib.hid hS5
    replace hb5 := Lib.hid hb5
    go_upto_region 14 with (go_at_call 11; (with_reducible refine c11b.mono ?_); rintro e w6 ⟨rfl, hb6⟩)
    have hS6 := hS5.out.below hb6
    have c12 := hS6.all 2
    replace hb6 := Lib.hid hb6
    replace hS6 := Lib.hid hS6
    generalize hids : s1.b.all 2 = ids at *
    have hb1' : Below w1.heap.size w1 w6 := hb5.out.trans (hb6.out.mono hb5.out.size)
    replace hb1' := Lib.hid hb1'
    replace hids := Lib.hid hids
    go_wp2_with (go_at_call 12; (with_reducible refine c12.mono ?_); rintro e w7 ⟨u2, rfl, hz⟩; obtain ⟨pu, capu, hu, -, -, hps⟩ := Dd.orow_shape hz.row; subst hu)
    have hbz := hz.bl
    have hSz : PS (fun j => j < w1.heap.size ∨ (Value.slice pu ids.length capu).ownBlock = some j) c s1 w7 := hS6.out.more hbz fun j hj => hj.imp id fun e => ⟨hz.own j e, (World.ownsRow.lt hz.row j e).2⟩
    have hrow := hz.row
    have hb7 : Below w1.heap.size w1 w7 := hb1'.out.trans (hbz.mono hb1'.out.size)
    replace hz := Lib.hid hz
    replace hbz := Lib.hid hbz
    replace hSz := Lib.hid hSz
    replace hrow := Lib.hid hrow
    replace hb7 := Lib.hid hb7
    clear hps
    go_loopw [10, 11, 56] (fun a b d wr => ∃ k : Nat, d = .int .i64 (k : Nat) ∧ k ≤ ids.length ∧ PS (fun j => j < w1.heap.size ∨ (Value.slice pu ids.length capu).ownBlock = some j) c s1 wr ∧ Dd.IRow wr (.slice pu ids.length capu) ids ∧ Below w1.heap.size w1 wr) (fun a b d wr => ids.length - (intOf d).toNat)
    case atStart => exact ⟨0, rfl, by omega, hSz.out, hrow.out, hb7.out⟩
    case round =>
      clear hSz hrow hb7
      obtain ⟨k, rfl, hk, hSz, hrow, hb7⟩ := hrel
      by_cases hlt : k < ids.length
      · have hlt' : (k : Int) < (ids.length : Int) := by omega
        obtain ⟨g, cap', eu, m0⟩ := all_row hrow hlt
        have eu' : pu = some ⟨g, 0, none⟩ := by injection eu
        subst eu'
        have hmem := List.getElem_mem hlt
        have i64 := hin.out _ hmem
        have hc := hcl.out _ hmem
        have hte1 := hte.out _ hmem
        have hst1 := hst.out _ hmem
        generalize ids[k] = id at *
        have cT := hSz.tryc i64
        have hrw : ∀ wv, Kp (fun j => ¬ (j < w1.heap.size ∨ (Value.slice (some ⟨g, 0, none⟩) ids.length capu).ownBlock = some j)) wr wv → Dd.IRow wv (.slice (some ⟨g, 0, none⟩) ids.length capu) ids ∧ Below w1.heap.size w1 wv := fun wv hk => ⟨irow_kept hrow fun g' hg' => hk.block g' (World.ownsRow.lt hrow g' hg').2 fun hn => hn (.inr hg'), hb7.trans (hk.below hb7.size fun j hj hn => hn (.inl hj))⟩
        rw [DoneS_iff, hte1] at cT
        have cS : ∀ wv, PS (fun j => j < w1.heap.size ∨ (Value.slice (some ⟨g, 0, none⟩) ids.length capu).ownBlock = some j) c s1 wv → _ := fun wv h => h.state i64
        rw [hst1] at cS
        replace hSz := Lib.hid hSz
        replace hrow := Lib.hid hrow
        replace hb7 := Lib.hid hb7
        replace hrw := Lib.hid hrw
        replace cS := Lib.hid cS
        replace hte1 := Lib.hid hte1
        replace hst1 := Lib.hid hst1
        clear eu
        rcases hc with hc | hc
        · rw [hc] at cT
          replace hc := Lib.hid hc
          go_wp2_with (first | (go_at_call 18; (with_reducible refine cT.mono ?_); rintro e wv ⟨rfl, hSv, hkv⟩; have c15 := cS.out wv hSv; replace hSv := Lib.hid hSv; replace hkv := Lib.hid hkv) | (go_at_call 15; (with_reducible refine c15.mono ?_); rintro e v' ⟨rfl, rfl⟩))
          go_roundw
          case rel => exact ⟨k + 1, by go_num, by omega, hSv.out, (hrw.out _ hkv.out).1, (hrw.out _ hkv.out).2⟩
          case measure => simp only [intOf, Int.toNat_natCast]; exact Nat.sub_lt_sub_left hlt (by simp)
        · rw [hc] at cT
          replace hc := Lib.hid hc
          go_wp2_with (first | (go_at_call 18; (with_reducible refine cT.mono ?_); rintro e wv ⟨rfl, hSv, hkv⟩; have c15 := cS.out wv hSv; replace hSv := Lib.hid hSv; replace hkv := Lib.hid hkv) | (go_at_call 15; (with_reducible refine c15.mono ?_); rintro e v' ⟨rfl, rfl⟩))
          go_roundw
          case rel => exact ⟨k + 1, by go_num, by omega, hSv.out, (hrw.out _ hkv.out).1, (hrw.out _ hkv.out).2⟩
          case measure => simp only [intOf, Int.toNat_natCast]; exact Nat.sub_lt_sub_left hlt (by simp)
      · obtain rfl : k = ids.length := by omega
        have hirr : ¬ ((ids.length : Nat) : Int) < ((ids.length : Nat) : Int) := by omega
        have cTx := hSz.text
        rw [hsv.out] at cTx
        replace hSz := Lib.hid hSz
        replace hrow := Lib.hid hrow
        replace hb7 := Lib.hid hb7
        go_wp2_with (go_at_call 11; (with_reducible refine cTx.mono ?_); rintro e w8 ⟨rfl, hb8⟩; replace hb8 := Lib.hid hb8)
        go_ret
        exact ⟨by simp, hB1.out.trans ((hb7.out.trans (hb8.out.mono hb7.out.size)).mono hB1.out.size)⟩
  · have c8' : Calls Tryz.prog 8 #[.agg #[.slice x.p1 x.n1 x.c1, .slice x.p2 x.n2 x.c2, .slice x.p3 x.n3 x.c3, .slice x.p4 x.n4 x.c4]] w1 fun e w' => e = .returned (.tuple #[.pointer none, .pointer none]) ∧ Below w1.heap.size w1 w' := c8.mono fun e w' ⟨_, h2, h3⟩ => ⟨h2 hg, h3⟩
    replace c8' := Lib.hid c8'
    replace hg := Lib.hid hg
    replace hB1 := Lib.hid hB1
    clear c8
    go_wp2_with (go_at_call 8; (with_reducible refine c8'.out.mono ?_); rintro e w2 ⟨rfl, hb2⟩; replace hb2 := Lib.hid hb2)
    go_ret
    exact ⟨rfl, hB1.out.trans (hb2.out.mono hB1.out.size)⟩
end Go.Proofs.YtiehbbhjpcnbnaaGreat
