/- SettleAll. -/
import Derived.Test.YtiehbbhjpcnbnaaGreatST
namespace Go.Proofs.YtiehbbhjpcnbnaaGreat
open Go.RowKit
set_option linter.unusedVariables false

/-- a bank without pay-ins -/
def BV.bare (x : BV) : BV := { x with p4 := none, n4 := 0, c4 := 0, ps := [] }
theorem BV.In.bare {x : BV} {w : World} (h : x.In w) : x.bare.In w := ⟨h.t, h.l, h.d, ⟨rfl, (fun q hq => by cases hq), .inl rfl⟩⟩
def dealD (s : ST) (id : Int) : Dd.Dl := (s.b.deal id).1
structure AllF (s : ST) (ids : List Int) : Prop where
  r : Rich s.g 0
  d : ∀ id ∈ ids, Dd.mayB (dealD s id) s.g.l.nm s.g.l.nc = true ∧ (dealD s id).s ≤ 1073741824 ∧ (dealD s id).t ≤ 1073741824
  k : ∀ id ∈ ids, s.b.deal id = (dealD s id, true) ∧ (dealD s id).In ∧ In64 id ∧ s.b.state id = 2
  l : ids.length ≤ 200
  nd : ids.Nodup
  z : ∀ m c, s.g.l.B m c = 0
theorem allF {x : BV} {w : World} (hx : x.In w) (hg : x.Good) (hps : x.ps = []) (hok : x.st.Ok) (ha : ∀ d ∈ x.ds, d.s ≤ 1073741824 ∧ d.t ≤ 1073741824) : AllF x.st (x.st.b.all 2) := by
  have hn := newOk_iff.1 hg.new
  have eg : x.st.g = newGM (LM.new x.n2 x.n1) x.cs x.ls := by show inS _ x.ps = _; rw [hps]; rfl
  have hR : Rich x.st.g 0 := by rw [eg]; exact rich_new (by omega) (by omega) hg.chk hx.t.1 hg.lim
  have hP : ∀ e ∈ x.st.b.l, e.d.s ≤ 1073741824 ∧ e.d.t ≤ 1073741824 := subS_P (P := fun d => d.s ≤ 1073741824 ∧ d.t ≤ 1073741824) (fun d h => ⟨h.2, h.1⟩) x.ds (fun e he => by cases he) ha
  have hst : ∀ id ∈ x.st.b.all 2, x.st.b.state id = 2 ∧ (x.st.b.deal id).2 = true := fun id hid => state_all hok.b hid
  refine ⟨hR, fun id hid => ?_, fun id hid => ?_, Nat.le_trans (all_len _ _) hok.b.len, all_nodup hok.b 2, fun m c => by rw [eg]; rfl⟩
  · have h1 := hst id hid
    obtain ⟨e, he, e1, _⟩ := deal_known hok h1.2
    have h2 := hP e he
    rw [e1] at h2
    have h3 := (deal_may hok h1.2).1
    rw [hok.nm, hok.nc] at h3
    exact ⟨h3, h2⟩
  · have h1 := hst id hid
    exact ⟨Prod.ext rfl h1.2, (deal_may hok h1.2).2, hok.id64 hid, h1.1⟩
theorem allF_cyc {s : ST} (h : AllF s (s.b.all 2)) (hok : (ST.mk (payG (dealD s) s.g (s.b.all 2)) s.b).Ok) : (cycS ⟨payG (dealD s) s.g (s.b.all 2), s.b⟩).1 = s.b.all 2 ∧ (cycS ⟨payG (dealD s) s.g (s.b.all 2), s.b⟩).2.1 = min ((s.b.all 2).length : Int) 1 + 1 := by
  obtain ⟨h1, h2, h3, h4⟩ := pay_rich h.r h.d h.l (s.b.all 2).length (Nat.le_refl _)
  rw [List.take_length] at h1 h2 h3 h4
  have hl := h.l
  refine cyc_all hok ?_
  exact passL_all (s.b.all 2) (D := dealD s) hok h1 (by omega) h.nd (fun id hid => ⟨(h.k id hid).1, (h.k id hid).2.2.2, (h.d id hid).2⟩) (fun m c => by
    show need _ _ m c ≤ (payG (dealD s) s.g (s.b.all 2)).l.B m c
    rw [h2, h.z]; omega)
set_option maxHeartbeats 8000000 in
set_option maxRecDepth 100000 in
theorem settleAll_any (x : BV) (w : World) (h : x.In w) (hn3 : x.n3 ≤ 140737488351232) : Calls Tryz.prog 5 #[x.val] w fun e w' => e = .returned (.bool true) ∧ Below w.heap.size w w' := by
  have hn := heap_alloc_new w x.obj
  have hB : Below w.heap.size w (w.alloc x.obj) := (Below.refl _ _).alloc (Nat.le_refl _) _
  have hs : (w.alloc x.obj).heap.size = w.heap.size + 1 := by simp
  have hA := awake_any (w.alloc x.obj)
  have hM := fun W (hb : Below w.heap.size w W) => made_any x.bare W (h.bare.kept hb)
  have hd := fun W (hb : Below w.heap.size w W) => (h.d.kept hb)
  unfold BV.obj BV.val at *
  replace hM := Lib.hid hM
  replace hd := Lib.hid hd
  replace h := Lib.hid h
  go_enter Tryz.func5, Tryz.ntmps5
  go_upto_region 1 with fail
  generalize w.alloc _ = w0 at *
  go_upto_region 3 with (go_at_call 7; (with_reducible refine hA.mono ?_); rintro e w1 ⟨rfl, hb1⟩)
  have k0 : w1.cell? ⟨w.heap.size, 0, none⟩ = some (.slice x.p1 x.n1 x.c1) := (hb1.cell (p := ⟨w.heap.size, 0, none⟩) (obj_lt hn)).trans (obj_cell hn rfl)
  have k1 : w1.cell? ⟨w.heap.size, 1, none⟩ = some (.slice x.p2 x.n2 x.c2) := (hb1.cell (p := ⟨w.heap.size, 1, none⟩) (obj_lt hn)).trans (obj_cell hn rfl)
  have k2 : w1.cell? ⟨w.heap.size, 2, none⟩ = some (.slice x.p3 x.n3 x.c3) := (hb1.cell (p := ⟨w.heap.size, 2, none⟩) (obj_lt hn)).trans (obj_cell hn rfl)
  have ho : w1.heap[w.heap.size]? = some (.cells #[.slice x.p1 x.n1 x.c1, .slice x.p2 x.n2 x.c2, .slice x.p3 x.n3 x.c3, .slice x.p4 x.n4 x.c4] 27 (0, 0)) := (hb1.block _ (obj_lt hn)).trans hn
  have hB1 := hB.trans (hb1.mono hB.size)
  have hxl : w.heap.size < w1.heap.size := by have := hb1.size; omega
  have hd1 := hd.out w1 hB1
  have hdl := hd1.1
  have hdat : ∀ k (hk : k < x.ds.length), ∃ b off, x.p3 = some ⟨b, off, none⟩ ∧ b < w1.heap.size ∧ w1.cell? ⟨b, off + k * 7, none⟩ = some (.int .i64 x.ds[k].id) ∧ w1.cell? ⟨b, off + k * 7 + 1, none⟩ = some (.int .i64 x.ds[k].a) ∧ w1.cell? ⟨b, off + k * 7 + 2, none⟩ = some (.int .i64 x.ds[k].b) ∧ w1.cell? ⟨b, off + k * 7 + 3, none⟩ = some (.int .i64 x.ds[k].sc) ∧ w1.cell? ⟨b, off + k * 7 + 4, none⟩ = some (.int .i64 x.ds[k].bc) ∧ w1.cell? ⟨b, off + k * 7 + 5, none⟩ = some (.int .i64 x.ds[k].s) ∧ w1.cell? ⟨b, off + k * 7 + 6, none⟩ = some (.int .i64 x.ds[k].t) := fun k hk => by
    obtain ⟨b, off, e, hlt, hc⟩ := hd1.2.2.resolve_left (by omega)
    exact ⟨b, off, e, hlt, hc k _ (List.getElem?_eq_getElem hk)⟩
  replace hdat := Lib.hid hdat
  replace hdl := Lib.hid hdl
  replace hd1 := Lib.hid hd1
  replace hb1 := Lib.hid hb1
  replace hn := Lib.hid hn
  replace ho := Lib.hid ho
  replace hB1 := Lib.hid hB1
  clear hA
  go_wp2_with fail
  go_loopw [4, 19] (fun a b wr => ∃ k : Nat, b = .int .i64 (k : Nat) ∧ k ≤ x.n3 ∧ (∀ i (hi : i < x.ds.length), i < k → x.ds[i].s ≤ 1073741824 ∧ x.ds[i].t ≤ 1073741824) ∧ Below w1.heap.size w1 wr) (fun a b wr => x.n3 - (intOf b).toNat)
  case atStart => exact ⟨0, rfl, by omega, fun i _ hi => by omega, Below.refl _ _⟩
  case round =>
    obtain ⟨k, rfl, hk, hamt, hb⟩ := hrel
    by_cases hlt : k < x.n3
    · have hlt' : (k : Int) < (x.n3 : Int) := by omega
      have hkp : k < x.ds.length := by rw [hdl.out]; exact hlt
      obtain ⟨b, off, e3, hbl, g0, g1, g2, g3, g4, g5, g6⟩ := hdat.out k hkp
      have m0 := (hb.cell (p := ⟨b, off + k * 7, none⟩) hbl).trans g0
      have m1 := (hb.cell (p := ⟨b, off + k * 7 + 1, none⟩) hbl).trans g1
      have m2 := (hb.cell (p := ⟨b, off + k * 7 + 2, none⟩) hbl).trans g2
      have m3 := (hb.cell (p := ⟨b, off + k * 7 + 3, none⟩) hbl).trans g3
      have m4 := (hb.cell (p := ⟨b, off + k * 7 + 4, none⟩) hbl).trans g4
      have m5 := (hb.cell (p := ⟨b, off + k * 7 + 5, none⟩) hbl).trans g5
      have m6 := (hb.cell (p := ⟨b, off + k * 7 + 6, none⟩) hbl).trans g6
      rw [e3]
      clear g0 g1 g2 g3 g4 g5 g6
      have hnx : ∀ d, x.ds[k] = d → d.s ≤ 1073741824 → d.t ≤ 1073741824 → ∀ i (hi : i < x.ds.length), i < k + 1 → x.ds[i].s ≤ 1073741824 ∧ x.ds[i].t ≤ 1073741824 := fun d e h1 h2 i hi hik => by
        by_cases e2 : i = k
        · subst e2; rw [e]; exact ⟨h1, h2⟩
        · exact hamt i hi (by omega)
      generalize hde : x.ds[k] = d at *
      have hnx2 := hnx d rfl
      have hbo : Below w1.heap.size w1 (wr.alloc d.obj) := hb.trans (((Below.refl _ wr).alloc (Nat.le_refl _) _).mono hb.size)
      obtain ⟨n0, n1, n2, n3, n4, n5, n6⟩ := Dd.boxD _ _ d (heap_alloc_new wr d.obj)
      unfold Dd.Dl.obj at *
      replace hbo := Lib.hid hbo
      replace hb := Lib.hid hb
      replace hamt := Lib.hid hamt
      replace hde := Lib.hid hde
      replace hnx2 := Lib.hid hnx2
      clear hnx
      by_cases q1 : (1073741824 : Int) < d.s
      · go_wp2_with fail
        go_ret
        exact ⟨rfl, hB1.out.trans (hbo.out.mono hB1.out.size)⟩
      by_cases q2 : (1073741824 : Int) < d.t
      · go_wp2_with fail
        go_ret
        exact ⟨rfl, hB1.out.trans (hbo.out.mono hB1.out.size)⟩
      go_wp2_with fail
      go_roundw
      case rel => exact ⟨k + 1, by go_num, by omega, hnx2.out (by omega) (by omega), hbo.out⟩
      case measure => simp only [intOf, Int.toNat_natCast]; exact Nat.sub_lt_sub_left hlt (by simp)
    · obtain rfl : k = x.n3 := by omega
      have hkz : ¬ ((x.n3 : Nat) : Int) < ((x.n3 : Nat) : Int) := by omega
      have hall : ∀ d ∈ x.ds, d.s ≤ 1073741824 ∧ d.t ≤ 1073741824 := fun d hd => by
        obtain ⟨i, hi, rfl⟩ := List.getElem_of_mem hd
        exact hamt i hi (by rw [← hdl.out]; exact hi)
      have hor := (hb.block _ hxl).trans ho.out
      have r3 : wr.cell? ⟨w.heap.size, 3, none⟩ = some (.slice x.p4 x.n4 x.c4) := obj_cell hor rfl
      have rf := obj_free hor 3
      replace hb := Lib.hid hb
      replace hamt := Lib.hid hamt
      replace hall := Lib.hid hall
      replace hor := Lib.hid hor
      clear k0 k1 k2
      go_upto_region 10 with fail
      have hX : (wr.setCell ⟨w.heap.size, 3, none⟩ (.slice none 0 0)).heap[w.heap.size]? = some (.cells #[.slice x.p1 x.n1 x.c1, .slice x.p2 x.n2 x.c2, .slice x.p3 x.n3 x.c3, .slice none 0 0] 27 (0, 0)) := obj_set hor.out 3 _
      have hBX : Below w.heap.size w (wr.setCell ⟨w.heap.size, 3, none⟩ (.slice none 0 0)) := (hB1.out.trans (hb.out.mono hB1.out.size)).setCell (p := ⟨w.heap.size, 3, none⟩) (Nat.le_refl _) _
      generalize wr.setCell _ _ = v0 at *
      have k0 : v0.cell? ⟨w.heap.size, 0, none⟩ = some (.slice x.p1 x.n1 x.c1) := obj_cell hX rfl
      have k1 : v0.cell? ⟨w.heap.size, 1, none⟩ = some (.slice x.p2 x.n2 x.c2) := obj_cell hX rfl
      have k2 : v0.cell? ⟨w.heap.size, 2, none⟩ = some (.slice x.p3 x.n3 x.c3) := obj_cell hX rfl
      have k3 : v0.cell? ⟨w.heap.size, 3, none⟩ = some (.slice none 0 0) := obj_cell hX rfl
      have c8 := hM.out v0 hBX
      replace hX := Lib.hid hX
      clear r3 rf
      by_cases hg : x.bare.Good
      · have c8' : Calls Tryz.prog 8 #[.agg #[.slice x.p1 x.n1 x.c1, .slice x.p2 x.n2 x.c2, .slice x.p3 x.n3 x.c3, .slice none 0 0]] v0 fun e w' => ∃ c, e = .returned (.tuple #[.pointer (some ⟨c.gb, 0, none⟩), .pointer (some ⟨c.kb, 0, none⟩)]) ∧ PS (fun j => j < v0.heap.size) c x.bare.st w' ∧ Below v0.heap.size v0 w' := c8.mono fun e w' ⟨h1, _, h3⟩ => by
          obtain ⟨c, e1, e2⟩ := h1 hg
          exact ⟨c, e1, e2, h3⟩
        replace c8' := Lib.hid c8'
        replace hg := Lib.hid hg
        replace hBX := Lib.hid hBX
        clear c8
        go_upto_region 13 with (go_at_call 8; (with_reducible refine c8'.out.mono ?_); rintro e v1 ⟨c, rfl, hS1, hb1'⟩)
        have hF : AllF x.bare.st (x.bare.st.b.all 2) := allF (x := x.bare) (w := w) h.out.bare hg.out rfl hS1.ok hall.out
        have c12 := hS1.all 2
        have hcyc := fun hok => allF_cyc hF hok
        have hpay := fun k (hk : k < (x.bare.st.b.all 2).length) => pay_ok hF.r hF.d hF.l hk
        have hnx := fun k (hk : k < (x.bare.st.b.all 2).length) => payG_take (D := dealD x.bare.st) (g := x.bare.st.g) hk
        have hln := hF.l
        have hFk := hF.k
        generalize x.bare.st = s at *
        replace hS1 := Lib.hid hS1
        replace hb1' := Lib.hid hb1'
        replace hF := Lib.hid hF
        replace hcyc := Lib.hid hcyc
        replace hpay := Lib.hid hpay
        replace hnx := Lib.hid hnx
        replace hFk := Lib.hid hFk
        clear k0 k1 k2 k3
        generalize hids : s.b.all 2 = ids at *
        replace hids := Lib.hid hids
        go_upto_region 14 with (go_at_call 12; (with_reducible refine c12.mono ?_); rintro e v2 ⟨u1, rfl, hz⟩; obtain ⟨p1', cap1, hu1, -, -, -⟩ := Dd.orow_shape hz.row; subst hu1)
        have hS2 : PS (fun j => j < v0.heap.size ∨ (Value.slice p1' ids.length cap1).ownBlock = some j) c s v2 := hS1.out.more hz.bl fun j hj => hj.imp id fun e => ⟨hz.own j e, (World.ownsRow.lt hz.row j e).2⟩
        have hB2 : Below v0.heap.size v0 v2 := hb1'.out.trans (hz.bl.mono hb1'.out.size)
        have hrow := hz.row
        have hS2' : PS (fun j => j < v0.heap.size ∨ (Value.slice p1' ids.length cap1).ownBlock = some j) c ⟨payG (dealD s) s.g (ids.take 0), s.b⟩ v2 := hS2
        replace hS2' := Lib.hid hS2'
        replace hB2 := Lib.hid hB2
        replace hrow := Lib.hid hrow
        replace hz := Lib.hid hz
        clear hS2
        go_wp2_with fail
        go_loopw [9, 10, 11, 48] (fun a b e d wv => ∃ k : Nat, d = .int .i64 (k : Nat) ∧ k ≤ ids.length ∧ PS (fun j => j < v0.heap.size ∨ (Value.slice p1' ids.length cap1).ownBlock = some j) c ⟨payG (dealD s) s.g (ids.take k), s.b⟩ wv ∧ Dd.IRow wv (.slice p1' ids.length cap1) ids ∧ Below v0.heap.size v0 wv) (fun a b e d wv => ids.length - (intOf d).toNat)
        case atStart => exact ⟨0, rfl, by omega, hS2'.out, hrow.out, hB2.out⟩
        case round =>
          clear hS2' hrow hB2
          obtain ⟨k, rfl, hk, hS, hrow, hb7⟩ := hrel
          by_cases hlt : k < ids.length
          · have hlt' : (k : Int) < (ids.length : Int) := by omega
            obtain ⟨g, cap', eu, m0⟩ := all_row hrow hlt
            have eu' : p1' = some ⟨g, 0, none⟩ := by injection eu
            subst eu'
            obtain ⟨q1, q2, q3, q4⟩ := hFk.out _ (List.getElem_mem hlt)
            obtain ⟨z1, z2⟩ := hpay.out k hlt
            have hnext := hnx.out k hlt
            generalize ids[k] = id at *
            have c14 := hS.deal q3
            rw [show (ST.mk (payG (dealD s) s.g (ids.take k)) s.b).b.deal id = (dealD s id, true) from q1] at c14
            generalize dealD s id = D at *
            have c19 : ∀ v, Below wr.heap.size wr v → v.heap[v.heap.size - 1]? = some D.obj → wr.heap.size < v.heap.size → Calls Tryz.prog 19 #[.pointer (some ⟨c.gb, 0, none⟩), .int .i64 D.a, .int .i64 D.sc, .int .i64 D.s] v fun e w' => e = .returned (.int .i64 0) ∧ PS (fun j => j < v0.heap.size ∨ (Value.slice (some ⟨g, 0, none⟩) ids.length cap1).ownBlock = some j) c ⟨((payG (dealD s) s.g (ids.take k)).inn D.a D.sc D.s).2, s.b⟩ w' ∧ w'.heap[v.heap.size - 1]? = some D.obj ∧ Kp (fun j => ¬ (j < v0.heap.size ∨ (Value.slice (some ⟨g, 0, none⟩) ids.length cap1).ownBlock = some j)) wr w' := fun v hb hob hsz => by
              have h1 : PS (fun j => (j < v0.heap.size ∨ (Value.slice (some ⟨g, 0, none⟩) ids.length cap1).ownBlock = some j) ∨ j = v.heap.size - 1) c ⟨payG (dealD s) s.g (ids.take k), s.b⟩ v := hS.more hb fun j hj => hj.imp (fun h => h) fun e => ⟨by omega, by omega⟩
              refine (h1.inn q2.a q2.sc q2.s).mono fun e w' ⟨e1, e2, e3⟩ => ?_
              dsimp only at e1 e2
              rw [z1] at e1
              exact ⟨e1, e2.less fun j hj => .inl hj, (e3.block _ (by omega) fun hn => hn (.inr rfl)).trans hob, (Kp.of_below hb).trans (e3.mono fun j _ hn hk => hn (.inl hk))⟩
            have c19b : ∀ v, PS (fun j => j < v0.heap.size ∨ (Value.slice (some ⟨g, 0, none⟩) ids.length cap1).ownBlock = some j) c ⟨((payG (dealD s) s.g (ids.take k)).inn D.a D.sc D.s).2, s.b⟩ v → Calls Tryz.prog 19 #[.pointer (some ⟨c.gb, 0, none⟩), .int .i64 D.b, .int .i64 D.bc, .int .i64 D.t] v fun e w' => e = .returned (.int .i64 0) ∧ PS (fun j => j < v0.heap.size ∨ (Value.slice (some ⟨g, 0, none⟩) ids.length cap1).ownBlock = some j) c ⟨payG (dealD s) s.g (ids.take (k + 1)), s.b⟩ w' ∧ Kp (fun j => ¬ (j < v0.heap.size ∨ (Value.slice (some ⟨g, 0, none⟩) ids.length cap1).ownBlock = some j)) v w' := fun v hv => by
              refine (hv.inn q2.b q2.bc q2.t).mono fun e w' ⟨e1, e2, e3⟩ => ?_
              dsimp only at e1 e2
              rw [z2] at e1
              rw [hnext]
              exact ⟨e1, e2, e3⟩
            have hrw : ∀ wv, Kp (fun j => ¬ (j < v0.heap.size ∨ (Value.slice (some ⟨g, 0, none⟩) ids.length cap1).ownBlock = some j)) wr wv → Dd.IRow wv (.slice (some ⟨g, 0, none⟩) ids.length cap1) ids ∧ Below v0.heap.size v0 wv := fun wv hk => ⟨irow_kept hrow fun g' hg' => hk.block g' (World.ownsRow.lt hrow g' hg').2 fun hn => hn (.inr hg'), hb7.trans (hk.below hb7.size fun j hj hn => hn (.inl hj))⟩
            replace c19 := Lib.hid c19
            replace c19b := Lib.hid c19b
            replace hrw := Lib.hid hrw
            replace hS := Lib.hid hS
            replace hrow := Lib.hid hrow
            replace hb7 := Lib.hid hb7
            replace q1 := Lib.hid q1
            replace q2 := Lib.hid q2
            replace q4 := Lib.hid q4
            replace z1 := Lib.hid z1
            replace z2 := Lib.hid z2
            replace hnext := Lib.hid hnext
            clear eu
            unfold Dd.Dl.val at c14
            go_upto_region 18 with (go_at_call 14; (with_reducible refine c14.mono ?_); rintro e v3 ⟨rfl, hbv⟩)
            have hb8 : Below wr.heap.size wr (v3.alloc D.obj) := hbv.trans (((Below.refl _ v3).alloc (Nat.le_refl _) _).mono hbv.size)
            have hnb := heap_alloc_new v3 D.obj
            have hsz4 : (v3.alloc D.obj).heap.size = v3.heap.size + 1 := by simp
            obtain ⟨n0, n1, n2, n3, n4, n5, n6⟩ := Dd.boxD _ _ D hnb
            have c19' := c19.out _ hb8 (by rw [hsz4]; exact hnb) (by rw [hsz4]; have := hbv.size; omega)
            rw [hsz4] at c19'
            simp only [Nat.add_sub_cancel] at c19'
            unfold Dd.Dl.obj at n0 n1 n2 n3 n4 n5 n6 c19' hb8 hnb hsz4
            generalize v3.alloc _ = v4 at *
            replace hnb := Lib.hid hnb
            replace hb8 := Lib.hid hb8
            replace hbv := Lib.hid hbv
            replace hsz4 := Lib.hid hsz4
            go_wp2_with (go_at_call 19; (first | ((with_reducible refine c19'.mono ?_); rintro e v5 ⟨rfl, hS5, ho5, hk5⟩; obtain ⟨o0, o1, o2, o3, o4, o5, o6⟩ := Dd.boxD _ _ D ho5; have c19c := Lib.hid (c19b.out v5 hS5); replace hS5 := Lib.hid hS5; replace ho5 := Lib.hid ho5; replace hk5 := Lib.hid hk5; clear c19') | ((with_reducible refine c19c.out.mono ?_); rintro e v6 ⟨rfl, hS6, hk6⟩; replace hS6 := Lib.hid hS6; replace hk6 := Lib.hid hk6)))
            go_roundw
            case rel => exact ⟨k + 1, by go_num, by omega, hS6.out, (hrw.out _ (hk5.out.trans hk6.out)).1, (hrw.out _ (hk5.out.trans hk6.out)).2⟩
            case measure => simp only [intOf, Int.toNat_natCast]; exact Nat.sub_lt_sub_left hlt (by simp)
          · obtain rfl : k = ids.length := by omega
            have hirr : ¬ ((ids.length : Nat) : Int) < ((ids.length : Nat) : Int) := by omega
            rw [List.take_length] at hS
            obtain ⟨e1, e2⟩ := hcyc.out hS.ok
            have c13 := hS.cycle
            rw [e1, e2] at c13
            have hmn : wrap64 (min ((ids.length : Nat) : Int) 1 + 1) = min ((ids.length : Nat) : Int) 1 + 1 := by unfold wrap64; omega
            have c20 : ∀ v u2, Dd.IRow v u2 ids → Kp (fun j => ¬ (j < v0.heap.size ∨ (Value.slice p1' ids.length cap1).ownBlock = some j)) wr v → Calls Tryz.prog 20 #[u2, .slice p1' ids.length cap1] v fun e w' => e = .returned (.bool true) ∧ Below v0.heap.size v0 w' := fun v u2 hr hk => by
              have hr1 : Dd.IRow v (.slice p1' ids.length cap1) ids := irow_kept hrow fun g' hg' => hk.block g' (World.ownsRow.lt hrow g' hg').2 fun hn => hn (.inr hg')
              have hbv : Below v0.heap.size v0 v := hb7.trans (hk.below hb7.size fun j hj hn => hn (.inl hj))
              refine (Dd.same_any u2 _ ids ids v hr hr1 (by omega) (by omega)).mono ?_
              rintro e w' ⟨q1, n, rfl⟩
              exact ⟨by rw [q1]; simp, ⟨hbv.os, hbv.tape, hbv.output, hbv.size, hbv.block⟩⟩
            replace c20 := Lib.hid c20
            replace hS := Lib.hid hS
            replace hrow := Lib.hid hrow
            replace hb7 := Lib.hid hb7
            replace e1 := Lib.hid e1
            replace e2 := Lib.hid e2
            go_upto_region 22 with (go_at_call 13; (with_reducible refine c13.mono ?_); rintro e v3 ⟨u2, rfl, hr3, hS3, hk3⟩)
            have c20' := Lib.hid (c20.out v3 u2 hr3 hk3)
            replace hr3 := Lib.hid hr3
            replace hS3 := Lib.hid hS3
            replace hk3 := Lib.hid hk3
            go_wp2_with (go_at_call 20; (with_reducible refine c20'.out.mono ?_); rintro e v4 ⟨rfl, hb4⟩; replace hb4 := Lib.hid hb4)
            go_ret
            exact ⟨by simp, hBX.out.trans (hb4.out.mono hBX.out.size)⟩
      · have c8' : Calls Tryz.prog 8 #[.agg #[.slice x.p1 x.n1 x.c1, .slice x.p2 x.n2 x.c2, .slice x.p3 x.n3 x.c3, .slice none 0 0]] v0 fun e w' => e = .returned (.tuple #[.pointer none, .pointer none]) ∧ Below v0.heap.size v0 w' := c8.mono fun e w' ⟨_, h2, h3⟩ => ⟨h2 hg, h3⟩
        replace c8' := Lib.hid c8'
        replace hg := Lib.hid hg
        replace hBX := Lib.hid hBX
        clear c8
        go_wp2_with (go_at_call 8; (with_reducible refine c8'.out.mono ?_); rintro e v1 ⟨rfl, hb2⟩; replace hb2 := Lib.hid hb2)
        go_ret
        exact ⟨rfl, hBX.out.trans (hb2.out.mono hBX.out.size)⟩
end Go.Proofs.YtiehbbhjpcnbnaaGreat
