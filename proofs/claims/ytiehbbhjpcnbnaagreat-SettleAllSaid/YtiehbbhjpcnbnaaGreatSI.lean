/- The contract of Made. -/
import Derived.Test.YtiehbbhjpcnbnaaGreatSH
namespace Go.Proofs.YtiehbbhjpcnbnaaGreat
open Go.RowKit
set_option linter.unusedVariables false

theorem und27 : (Tryz.prog.info? 27).map (fun i => (i.size, i.bytes)) = some (4, 96) := by kernel_rfl
def BV.obj (x : BV) : Obj := .cells #[.slice x.p1 x.n1 x.c1, .slice x.p2 x.n2 x.c2, .slice x.p3 x.n3 x.c3, .slice x.p4 x.n4 x.c4] 27
theorem risk_made {x : BV} {w1 W1 W2 : World} {lb kb : Nat} (h : x.In w1) (hok : newOk (x.n2 : Int) (x.n1 : Int) = true) (hL : PL (fun j => w1.heap.size ≤ j) W1 lb (LM.new x.n2 x.n1)) (hb1 : Below w1.heap.size w1 W1) (hP : Dd.PB (fun j => W1.heap.size ≤ j) W2 kb ⟨x.n2, x.n1, [], 0⟩) (hb2 : Below W1.heap.size W1 W2) :
    Calls Tryz.prog 24 #[.slice x.p1 x.n1 x.c1, .pointer (some ⟨lb, 0, none⟩), .slice x.p2 x.n2 x.c2] W2 fun e W3 => (chkT x.cs = 0 → limsOk x.ls x.n2 x.n1 = true → ∃ c, c.kb = kb ∧ e = .returned (.tuple #[.pointer (some ⟨c.gb, 0, none⟩), .int .i64 0]) ∧ PS (fun j => j < w1.heap.size) c x.st0 W3) ∧ (¬ (chkT x.cs = 0 ∧ limsOk x.ls x.n2 x.n1 = true) → ∃ r, e = .returned (.tuple #[.pointer none, .int .i64 r])) ∧ Below w1.heap.size w1 W3 := by
  have hnew := newOk_iff.1 hok
  have hg0 : (LM.new x.n2 x.n1).Good := by
    obtain ⟨g1, g2⟩ := new_ok (nm := x.n2) (nc := x.n1) (by omega) (by omega)
    exact ⟨g1, g2⟩
  have s1 := hb1.size
  have s2 := hb2.size
  have hb12 := hb1.trans (hb2.mono s1)
  have hL2 : PL (fun j => w1.heap.size ≤ j ∧ j < W1.heap.size) W2 lb (LM.new x.n2 x.n1) := (PL.live lb _).kept ((PL.live lb _).weak hL fun j hj hp => ⟨hp, hj⟩) (Kp.of_below (F := fun _ => False) hb2) (fun _ _ _ h => h)
  refine (newG_any (G' := fun j => j < w1.heap.size ∨ (W1.heap.size ≤ j ∧ j < W2.heap.size)) x.p1 x.n1 x.c1 x.cs lb _ x.p2 x.n2 x.c2 x.ls W2 (h.t.kept hb12) hL2 hg0 (h.l.kept hb12) (fun j _ hp hg => by omega) (fun j hj => by omega)).mono ?_
  rintro e W3 ⟨g1, g2, g3, g4⟩
  have hb3 : Below w1.heap.size w1 W3 := hb12.trans (g4.below hb12.size fun j hj e => e (.inl hj))
  refine ⟨fun hc hl => ?_, fun hn => ?_, hb3⟩
  · obtain ⟨gb, b, gL, cL, gF, cF, H, S, e1, hM⟩ := g3 hc h.t.1 hl
    exact ⟨⟨S, gb, lb, b, gL, cL, gF, cF, kb⟩, rfl, e1, PS.made hb1 hb2 hP hM g4 (Dd.new_ok (by omega) (by omega)) rfl rfl⟩
  · by_cases hc : chkT x.cs = 0
    · have hl : limsOk x.ls x.n2 x.n1 = false := by
        cases hx : limsOk x.ls x.n2 x.n1 with
        | false => rfl
        | true => exact absurd ⟨hc, hx⟩ hn
      exact ⟨_, (g2 hc (.inr hl)).1⟩
    · exact ⟨_, (g1 hc).1⟩
set_option maxHeartbeats 8000000 in
set_option maxRecDepth 100000 in
theorem made_any (x : BV) (w : World) (h : x.In w) : Calls Tryz.prog 8 #[x.val] w (MadeO x w) := by
  have hn := heap_alloc_new w x.obj
  have k0 : (w.alloc x.obj).cell? ⟨w.heap.size, 0, none⟩ = some (.slice x.p1 x.n1 x.c1) := obj_cell hn rfl
  have k1 : (w.alloc x.obj).cell? ⟨w.heap.size, 1, none⟩ = some (.slice x.p2 x.n2 x.c2) := obj_cell hn rfl
  have k2 : (w.alloc x.obj).cell? ⟨w.heap.size, 2, none⟩ = some (.slice x.p3 x.n3 x.c3) := obj_cell hn rfl
  have k3 : (w.alloc x.obj).cell? ⟨w.heap.size, 3, none⟩ = some (.slice x.p4 x.n4 x.c4) := obj_cell hn rfl
  have hB : Below w.heap.size w (w.alloc x.obj) := (Below.refl _ _).alloc (Nat.le_refl _) _
  have hs : (w.alloc x.obj).heap.size = w.heap.size + 1 := by simp
  have hi := h.kept hB
  clear hn
  unfold BV.obj BV.val at *
  by_cases hfit : x.n3 ≤ 30 ∧ x.n4 ≤ 30 ∧ x.n1 ≤ 8 ∧ x.n2 ≤ 16
  · obtain ⟨a1, a2, a3, a4⟩ := hfit
    have b1 : ¬ (30 : Int) < (x.n3 : Int) := by omega
    have b2 : ¬ (30 : Int) < (x.n4 : Int) := by omega
    have b3 : ¬ (8 : Int) < (x.n1 : Int) := by omega
    have b4 : ¬ (16 : Int) < (x.n2 : Int) := by omega
    have hN := fun W => new_any (x.n2 : Int) (x.n1 : Int) W
    go_enter Tryz.func8, Tryz.ntmps8
    go_upto_region 1 with fail
    generalize w.alloc _ = w1 at *
    have hG := fun hok lb kb W1 W2 => risk_made (x := x) (w1 := w1) (W1 := W1) (W2 := W2) (lb := lb) (kb := kb) hi hok
    cases hok : newOk (x.n2 : Int) (x.n1 : Int) with
    | false =>
      have hno : ∀ w', Below w1.heap.size w1 w' → MadeO x w (.returned (.tuple #[.pointer none, .pointer none])) w' := fun w' hb => ⟨fun g => absurd g.new (by rw [hok]; decide), fun _ => rfl, hB.trans (hb.mono hB.size)⟩
      have cN : ∀ W, Calls Tryz.prog 22 #[.int .i64 (x.n2 : Int), .int .i64 (x.n1 : Int)] W fun e w' => e = .returned (.tuple #[.pointer none, .int .i64 1]) ∧ Below W.heap.size W w' := fun W => (hN W).mono fun e w' ⟨_, h2, h3⟩ => ⟨h2 hok, h3⟩
      have cD := fun W => Dd.new_no (x.n2 : Int) (x.n1 : Int) W hok
      replace hno := Lib.hid hno
      replace cN := Lib.hid cN
      replace cD := Lib.hid cD
      replace hB := Lib.hid hB
      clear hG hN h hi
      have c22 := Lib.hid (cN.out w1)
      go_upto_region 4 with (go_at_call 22; (with_reducible refine c22.out.mono ?_); rintro e W1 ⟨rfl, hb1⟩)
      have c23 := Lib.hid (cD.out W1)
      have q0 := (hb1.cell (p := ⟨w.heap.size, 0, none⟩) (World.block_lt_of_cell? _ _ k0)).trans k0
      have q1 := (hb1.cell (p := ⟨w.heap.size, 1, none⟩) (World.block_lt_of_cell? _ _ k1)).trans k1
      replace hb1 := Lib.hid hb1
      go_wp2_with (go_at_call 23; (with_reducible refine c23.out.mono ?_); rintro e W2 ⟨rfl, rfl⟩)
      go_ret2
      exact hno.out _ hb1.out
    | true =>
      have cN : Calls Tryz.prog 22 #[.int .i64 (x.n2 : Int), .int .i64 (x.n1 : Int)] w1 fun e w' => ∃ lb, e = .returned (.tuple #[.pointer (some ⟨lb, 0, none⟩), .int .i64 0]) ∧ PL (fun j => w1.heap.size ≤ j) w' lb (LM.new x.n2 x.n1) ∧ Below w1.heap.size w1 w' := (hN w1).mono fun e w' ⟨h1, _, h3⟩ => by
        obtain ⟨lb, e1, hL⟩ := h1 hok
        simp only [Int.toNat_natCast] at hL
        exact ⟨lb, e1, hL, h3⟩
      have cD := fun W => Dd.new_yes (fun j => W.heap.size ≤ j) (x.n2 : Int) (x.n1 : Int) W hok (fun i hi => hi)
      have hG2 := fun lb kb W1 W2 => hG hok lb kb W1 W2
      replace cN := Lib.hid cN
      replace cD := Lib.hid cD
      replace hG2 := Lib.hid hG2
      replace hB := Lib.hid hB
      replace h := Lib.hid h
      have hd := hi.d
      have hp := hi.i
      replace hi := Lib.hid hi
      clear hG hN
      go_upto_region 4 with (go_at_call 22; (with_reducible refine cN.out.mono ?_); rintro e W1 ⟨lb, rfl, hL, hb1⟩)
      have c23 := Lib.hid (cD.out W1)
      have q0 := (hb1.cell (p := ⟨w.heap.size, 0, none⟩) (World.block_lt_of_cell? _ _ k0)).trans k0
      have q1 := (hb1.cell (p := ⟨w.heap.size, 1, none⟩) (World.block_lt_of_cell? _ _ k1)).trans k1
      replace hb1 := Lib.hid hb1
      replace hL := Lib.hid hL
      go_upto_region 5 with (go_at_call 23; (with_reducible refine c23.out.mono ?_); rintro e W2 ⟨kb, rfl, hP, hb2, hkb⟩)
      have r0 := (hb2.cell (p := ⟨w.heap.size, 0, none⟩) (World.block_lt_of_cell? _ _ q0)).trans q0
      have r1 := (hb2.cell (p := ⟨w.heap.size, 1, none⟩) (World.block_lt_of_cell? _ _ q1)).trans q1
      have c24 := hG2.out lb kb W1 W2 hL.out hb1.out hP hb2
      replace hb2 := Lib.hid hb2
      replace hP := Lib.hid hP
      replace hkb := Lib.hid hkb
      by_cases hall : chkT x.cs = 0 ∧ limsOk x.ls x.n2 x.n1 = true
      · have c24' : Calls Tryz.prog 24 #[.slice x.p1 x.n1 x.c1, .pointer (some ⟨lb, 0, none⟩), .slice x.p2 x.n2 x.c2] W2 fun e W3 => ∃ c, c.kb = kb ∧ e = .returned (.tuple #[.pointer (some ⟨c.gb, 0, none⟩), .int .i64 0]) ∧ PS (fun j => j < w1.heap.size) c x.st0 W3 ∧ Below w1.heap.size w1 W3 := c24.mono fun e W3 ⟨h1, _, h3⟩ => by
          obtain ⟨c, g1, g2, g3⟩ := h1 hall.1 hall.2
          exact ⟨c, g1, g2, g3, h3⟩
        have hgood : x.Good := ⟨a1, a2, a3, a4, hok, hall.1, hall.2⟩
        replace c24' := Lib.hid c24'
        replace hgood := Lib.hid hgood
        replace hall := Lib.hid hall
        clear c24
        go_upto_region 10 with (go_at_call 24; (with_reducible refine c24'.out.mono ?_); rintro e W3 ⟨c, rfl, rfl, hS, hb3⟩)
        have q2 := (hb3.cell (p := ⟨w.heap.size, 2, none⟩) (World.block_lt_of_cell? _ _ k2)).trans k2
        have q3 := (hb3.cell (p := ⟨w.heap.size, 3, none⟩) (World.block_lt_of_cell? _ _ k3)).trans k3
        have hxb := World.block_lt_of_cell? _ _ k2
        have hmax : (x.n4 : Int) ≤ 30 ∧ (x.n3 : Int) ≤ 30 := by omega
        have hS0 : PS (fun j => j < w1.heap.size) c ⟨inS x.st0.g (x.ps.take 0), x.st0.b⟩ W3 := hS
        replace hS0 := Lib.hid hS0
        clear hS q0 q1 r0 r1 k0 k1
        replace hb3 := Lib.hid hb3
        have hpl := hp.1
        have hdl := hd.1
        have hpat : ∀ k (hk : k < x.ps.length), ∃ b off, x.p4 = some ⟨b, off, none⟩ ∧ b < w1.heap.size ∧ w1.cell? ⟨b, off + k * 3, none⟩ = some (.int .i64 x.ps[k].m) ∧ w1.cell? ⟨b, off + k * 3 + 1, none⟩ = some (.int .i64 x.ps[k].c) ∧ w1.cell? ⟨b, off + k * 3 + 2, none⟩ = some (.int .i64 x.ps[k].a) := fun k hk => by
          obtain ⟨b, off, e, hlt, hc⟩ := hp.2.2.resolve_left (by omega)
          exact ⟨b, off, e, hlt, hc k _ (List.getElem?_eq_getElem hk)⟩
        have hpin : ∀ k (hk : k < x.ps.length), In64 x.ps[k].m ∧ In64 x.ps[k].c ∧ In64 x.ps[k].a := fun k hk => hp.2.1 _ (List.getElem_mem hk)
        have hdat : ∀ k (hk : k < x.ds.length), ∃ b off, x.p3 = some ⟨b, off, none⟩ ∧ b < w1.heap.size ∧ w1.cell? ⟨b, off + k * 7, none⟩ = some (.int .i64 x.ds[k].id) ∧ w1.cell? ⟨b, off + k * 7 + 1, none⟩ = some (.int .i64 x.ds[k].a) ∧ w1.cell? ⟨b, off + k * 7 + 2, none⟩ = some (.int .i64 x.ds[k].b) ∧ w1.cell? ⟨b, off + k * 7 + 3, none⟩ = some (.int .i64 x.ds[k].sc) ∧ w1.cell? ⟨b, off + k * 7 + 4, none⟩ = some (.int .i64 x.ds[k].bc) ∧ w1.cell? ⟨b, off + k * 7 + 5, none⟩ = some (.int .i64 x.ds[k].s) ∧ w1.cell? ⟨b, off + k * 7 + 6, none⟩ = some (.int .i64 x.ds[k].t) := fun k hk => by
          obtain ⟨b, off, e, hlt, hc⟩ := hd.2.2.resolve_left (by omega)
          exact ⟨b, off, e, hlt, hc k _ (List.getElem?_eq_getElem hk)⟩
        have hdin : ∀ k (hk : k < x.ds.length), x.ds[k].In := fun k hk => hd.2.1 _ (List.getElem_mem hk)
        replace hpat := Lib.hid hpat
        replace hpin := Lib.hid hpin
        replace hdat := Lib.hid hdat
        replace hdin := Lib.hid hdin
        replace hp := Lib.hid hp
        replace hd := Lib.hid hd
        replace hpl := Lib.hid hpl
        replace hdl := Lib.hid hdl
        go_wp2_with fail
        go_loopw [11, 76] (fun a b wr => ∃ k : Nat, b = .int .i64 (k : Nat) ∧ k ≤ x.n4 ∧ PS (fun j => j < w1.heap.size) c ⟨inS x.st0.g (x.ps.take k), x.st0.b⟩ wr ∧ Below w1.heap.size w1 wr) (fun a b wr => x.n4 - (intOf b).toNat)
        case atStart => exact ⟨0, rfl, by omega, hS0.out, hb3.out⟩
        case round =>
          obtain ⟨k, rfl, hk, hS, hb⟩ := hrel
          have q2 := (hb.cell (p := ⟨w.heap.size, 2, none⟩) hxb).trans k2
          by_cases hlt : k < x.n4
          · have hlt' : (k : Int) < (x.n4 : Int) := by omega
            have hkp : k < x.ps.length := by rw [hpl.out]; exact hlt
            obtain ⟨b, off, e4, hbl, g0, g1, g2⟩ := hpat.out k hkp
            have i0 := hpin.out k hkp
            have hnext := inS_take (g := x.st0.g) hkp
            have m0 := (hb.cell (p := ⟨b, off + k * 3, none⟩) hbl).trans g0
            have m1 := (hb.cell (p := ⟨b, off + k * 3 + 1, none⟩) hbl).trans g1
            have m2 := (hb.cell (p := ⟨b, off + k * 3 + 2, none⟩) hbl).trans g2
            rw [e4]
            clear g0 g1 g2
            generalize x.ps[k] = q at *
            have hbx : ∀ o, PS (fun j => j < w1.heap.size) c ⟨inS x.st0.g (x.ps.take k), x.st0.b⟩ (wr.alloc o) := fun o => hS.below ((Below.refl _ wr).alloc (Nat.le_refl _) o)
            have cI := fun o => (hbx o).inn i0.1 i0.2.1 i0.2.2
            have hbo : ∀ o, Below w1.heap.size w1 (wr.alloc o) := fun o => hb.trans (((Below.refl _ wr).alloc (Nat.le_refl _) o).mono hb.size)
            have hbn := heap_alloc_new wr (.cells #[.int .i64 q.m, .int .i64 q.c, .int .i64 q.a] 60)
            have n0 : (wr.alloc (.cells #[.int .i64 q.m, .int .i64 q.c, .int .i64 q.a] 60)).cell? ⟨wr.heap.size, 0, none⟩ = some (.int .i64 q.m) := obj_cell hbn rfl
            have n1 : (wr.alloc (.cells #[.int .i64 q.m, .int .i64 q.c, .int .i64 q.a] 60)).cell? ⟨wr.heap.size, 1, none⟩ = some (.int .i64 q.c) := obj_cell hbn rfl
            have n2 : (wr.alloc (.cells #[.int .i64 q.m, .int .i64 q.c, .int .i64 q.a] 60)).cell? ⟨wr.heap.size, 2, none⟩ = some (.int .i64 q.a) := obj_cell hbn rfl
            replace cI := Lib.hid cI
            replace hbo := Lib.hid hbo
            replace hbn := Lib.hid hbn
            replace hnext := Lib.hid hnext
            replace hb := Lib.hid hb
            replace hS := Lib.hid hS
            clear hbx
            go_wp2_with (go_at_call 19; (with_reducible refine (cI.out _).mono ?_); rintro e wv ⟨rfl, hS2, hk2⟩; replace hS2 := Lib.hid hS2; replace hk2 := Lib.hid hk2)
            go_roundw
            case rel => exact ⟨k + 1, by go_num, by omega, by rw [hnext.out]; exact hS2.out, (hbo.out _).trans ((hk2.out.below (hbo.out _).size fun j hj e => e hj))⟩
            case measure => simp only [intOf, Int.toNat_natCast]; exact Nat.sub_lt_sub_left hlt (by simp)
          · obtain rfl : k = x.n4 := by omega
            have hkz : ¬ ((x.n4 : Nat) : Int) < ((x.n4 : Nat) : Int) := by omega
            rw [← hpl.out, List.take_length] at hS
            have hS1 : PS (fun j => j < w1.heap.size) c ⟨inS x.st0.g x.ps, subS x.st0.b (x.ds.take 0)⟩ wr := hS
            replace hS1 := Lib.hid hS1
            replace hb := Lib.hid hb
            clear hS
            go_wp2_with fail
            go_loopw [13, 92] (fun a b wv => ∃ k : Nat, b = .int .i64 (k : Nat) ∧ k ≤ x.n3 ∧ PS (fun j => j < w1.heap.size) c ⟨inS x.st0.g x.ps, subS x.st0.b (x.ds.take k)⟩ wv ∧ Below w1.heap.size w1 wv) (fun a b wv => x.n3 - (intOf b).toNat)
            case atStart => exact ⟨0, rfl, by omega, hS1.out, hb.out⟩
            case round =>
              clear hS1 hb q2
              obtain ⟨k, rfl, hk, hS, hb⟩ := hrel
              by_cases hlt : k < x.n3
              · have hlt' : (k : Int) < (x.n3 : Int) := by omega
                have hkp : k < x.ds.length := by rw [hdl.out]; exact hlt
                obtain ⟨b, off, e3, hbl, g0, g1, g2, g3, g4, g5, g6⟩ := hdat.out k hkp
                have i0 := hdin.out k hkp
                have hnext := subS_take (b := x.st0.b) hkp
                have m0 := (hb.cell (p := ⟨b, off + k * 7, none⟩) hbl).trans g0
                have m1 := (hb.cell (p := ⟨b, off + k * 7 + 1, none⟩) hbl).trans g1
                have m2 := (hb.cell (p := ⟨b, off + k * 7 + 2, none⟩) hbl).trans g2
                have m3 := (hb.cell (p := ⟨b, off + k * 7 + 3, none⟩) hbl).trans g3
                have m4 := (hb.cell (p := ⟨b, off + k * 7 + 4, none⟩) hbl).trans g4
                have m5 := (hb.cell (p := ⟨b, off + k * 7 + 5, none⟩) hbl).trans g5
                have m6 := (hb.cell (p := ⟨b, off + k * 7 + 6, none⟩) hbl).trans g6
                rw [e3]
                clear g0 g1 g2 g3 g4 g5 g6
                generalize x.ds[k] = d at *
                obtain ⟨v, hv⟩ : ∃ v, v = wr.alloc d.obj := ⟨_, rfl⟩
                have hbv : Below wr.heap.size wr v := by rw [hv]; exact (Below.refl _ wr).alloc (Nat.le_refl _) _
                have hvs : v.heap.size = wr.heap.size + 1 := by rw [hv]; simp
                have hvo : v.heap[wr.heap.size]? = some d.obj := by rw [hv]; exact heap_alloc_new _ _
                have h1 : PS (fun j => j < w1.heap.size ∨ j = wr.heap.size) c ⟨inS x.st0.g x.ps, subS x.st0.b (x.ds.take k)⟩ v := hS.more hbv fun j hj => hj.imp id fun e => ⟨by omega, by omega⟩
                have c1 : Calls Tryz.prog 25 #[.pointer (some ⟨c.kb, 0, none⟩), d.val] v fun e w' => ∃ r1 r2, e = .returned (.tuple #[.bool r1, .int .i64 r2]) ∧ PS (fun j => j < w1.heap.size ∨ j = wr.heap.size) c ⟨inS x.st0.g x.ps, ((subS x.st0.b (x.ds.take k)).sub d).2⟩ w' ∧ w'.heap[wr.heap.size]? = some d.obj ∧ Below w1.heap.size w1 w' := (h1.sub d i0).mono fun e w' ⟨e1, e2, e3⟩ => ⟨_, _, e1, e2, (e3.block _ (by omega) fun hn => hn (.inr rfl)).trans hvo, (hb.trans (hbv.mono hb.size)).trans (e3.below (Nat.le_trans hb.size hbv.size) fun j hj hn => hn (.inl hj))⟩
                have c2 : ∀ v2, PS (fun j => j < w1.heap.size ∨ j = wr.heap.size) c ⟨inS x.st0.g x.ps, ((subS x.st0.b (x.ds.take k)).sub d).2⟩ v2 → Below w1.heap.size w1 v2 → Calls Tryz.prog 25 #[.pointer (some ⟨c.kb, 0, none⟩), d.mir.val] v2 fun e w' => ∃ r1 r2, e = .returned (.tuple #[.bool r1, .int .i64 r2]) ∧ PS (fun j => j < w1.heap.size) c ⟨inS x.st0.g x.ps, subS x.st0.b (x.ds.take (k + 1))⟩ w' ∧ Below w1.heap.size w1 w' := fun v2 g1 g2 => (g1.sub d.mir i0.mir).mono fun e w' ⟨e1, e2, e3⟩ => ⟨_, _, e1, by rw [hnext]; exact e2.less fun j hj => .inl hj, g2.trans (e3.below g2.size fun j hj hn => hn (.inl hj))⟩
                obtain ⟨n0, n1, n2, n3, n4, n5, n6⟩ := Dd.boxD _ _ d hvo
                replace c1 := Lib.hid c1
                replace c2 := Lib.hid c2
                replace hb := Lib.hid hb
                replace hbv := Lib.hid hbv
                replace hvs := Lib.hid hvs
                replace hvo := Lib.hid hvo
                replace h1 := Lib.hid h1
                replace hS := Lib.hid hS
                replace hnext := Lib.hid hnext
                replace i0 := Lib.hid i0
                unfold Dd.Dl.val Dd.Dl.mir at *
                unfold Dd.Dl.obj at hv
                go_upto_region 18 with fail
                rw [← hv]
                replace hv := Lib.hid hv
                go_upto_region 19 with (go_at_call 25; (with_reducible refine c1.out.mono ?_); rintro e v2 ⟨r1, r2, rfl, g1, g2, g3⟩)
                obtain ⟨o0, o1, o2, o3, o4, o5, o6⟩ := Dd.boxD _ _ d g2
                have c2' := Lib.hid (c2.out v2 g1 g3)
                replace g1 := Lib.hid g1
                replace g2 := Lib.hid g2
                replace g3 := Lib.hid g3
                go_wp2_with (go_at_call 25; (with_reducible refine c2'.out.mono ?_); rintro e v3 ⟨r3, r4, rfl, g4, g5⟩; replace g4 := Lib.hid g4; replace g5 := Lib.hid g5)
                go_roundw
                case rel => exact ⟨k + 1, by go_num, by omega, g4.out, g5.out⟩
                case measure => simp only [intOf, Int.toNat_natCast]; exact Nat.sub_lt_sub_left hlt (by simp)
              · obtain rfl : k = x.n3 := by omega
                have hkz3 : ¬ ((x.n3 : Nat) : Int) < ((x.n3 : Nat) : Int) := by omega
                rw [← hdl.out, List.take_length] at hS
                replace hS := Lib.hid hS
                replace hb := Lib.hid hb
                go_wp2_with fail
                go_ret2
                exact ⟨fun _ => ⟨c, rfl, hS.out.less fun j hj => Nat.lt_of_lt_of_le hj hB.out.size⟩, fun hn => absurd hgood.out hn, hB.out.trans (hb.out.mono hB.out.size)⟩
      · have hno : ∀ w', Below w1.heap.size w1 w' → MadeO x w (.returned (.tuple #[.pointer none, .pointer none])) w' := fun w' hb => ⟨fun g => absurd ⟨g.chk, g.lim⟩ hall, fun _ => rfl, hB.out.trans (hb.mono hB.out.size)⟩
        have c24' : Calls Tryz.prog 24 #[.slice x.p1 x.n1 x.c1, .pointer (some ⟨lb, 0, none⟩), .slice x.p2 x.n2 x.c2] W2 fun e W3 => ∃ r, e = .returned (.tuple #[.pointer none, .int .i64 r]) ∧ Below w1.heap.size w1 W3 := c24.mono fun e W3 ⟨_, h2, h3⟩ => by
          obtain ⟨r, g1⟩ := h2 hall
          exact ⟨r, g1, h3⟩
        replace hno := Lib.hid hno
        replace c24' := Lib.hid c24'
        replace hall := Lib.hid hall
        clear c24
        go_wp2_with (go_at_call 24; (with_reducible refine c24'.out.mono ?_); rintro e W3 ⟨r, rfl, hb3⟩; replace hb3 := Lib.hid hb3)
        go_ret2
        exact hno.out _ hb3.out
  · have hno : ∀ w', Below w.heap.size w w' → MadeO x w (.returned (.tuple #[.pointer none, .pointer none])) w' := fun w' hb => ⟨fun g => absurd ⟨g.d, g.i, g.t, g.l⟩ hfit, fun _ => rfl, hb⟩
    replace hno := Lib.hid hno
    replace hi := Lib.hid hi
    replace h := Lib.hid h
    by_cases a1 : (30 : Int) < (x.n3 : Int)
    · go_enter Tryz.func8, Tryz.ntmps8
      go_upto_region 1 with fail
      generalize w.alloc _ = w1 at *
      replace hB := Lib.hid hB
      go_wp2_with fail
      go_ret2
      exact hno.out _ hB.out
    by_cases a2 : (30 : Int) < (x.n4 : Int)
    · go_enter Tryz.func8, Tryz.ntmps8
      go_upto_region 1 with fail
      generalize w.alloc _ = w1 at *
      replace hB := Lib.hid hB
      go_wp2_with fail
      go_ret2
      exact hno.out _ hB.out
    by_cases a3 : (8 : Int) < (x.n1 : Int)
    · go_enter Tryz.func8, Tryz.ntmps8
      go_upto_region 1 with fail
      generalize w.alloc _ = w1 at *
      replace hB := Lib.hid hB
      go_wp2_with fail
      go_ret2
      exact hno.out _ hB.out
    by_cases a4 : (16 : Int) < (x.n2 : Int)
    · go_enter Tryz.func8, Tryz.ntmps8
      go_upto_region 1 with fail
      generalize w.alloc _ = w1 at *
      replace hB := Lib.hid hB
      go_wp2_with fail
      go_ret2
      exact hno.out _ hB.out
    · exact absurd ⟨by omega, by omega, by omega, by omega⟩ hfit
end Go.Proofs.YtiehbbhjpcnbnaaGreat
