/- RiskLimits: wider limits never fail more, and a pay-in never makes more fail: the law's walk. -/
import Derived.Test.YtljclgphgojphaaGR
import Derived.Deep.RegionHeld3
import Derived.Test.YtljclgphgojphaaGJ
namespace Go.Proofs.Ytljclgphgojphaa
open Go.RowKit
set_option linter.unusedVariables false
set_option maxHeartbeats 8000000 in
set_option maxRecDepth 100000 in
theorem riskLimits_any (p : Option Addr) (len cap : Nat) (cs : List Cur) (q : Option Addr) (n c2 : Nat) (ls : List LV) (r : Option Addr) (k3 c3 : Nat) (ops : List GOp) (me cu am : Int) (w : World) (hT : Tab w p len cs) (hl : LRow w q n ls) (ho : OpsW w r k3 ops) (h1 : In64 me) (h2 : In64 cu) (h3 : In64 am) :
    Calls Try.prog 3 #[.slice p len cap, .slice q n c2, .slice r k3 c3, .int .i64 me, .int .i64 cu, .int .i64 am] w fun e w' => e = .returned (.bool true) ∧ Below w.heap.size w w' := by
  have hA := Lib.hid (awake_any w)
  have hlm : len ≤ 140737488351232 := hT.2.2.1
  replace hT := Lib.hid hT
  replace hl := Lib.hid hl
  replace ho := Lib.hid ho
  go_enter Try.func3, Try.ntmps3
  go_upto_region 3 with (first | (go_at_call 4; (with_reducible refine hA.out.mono ?_); rintro e w1 ⟨rfl, hB1⟩))
  have hT1 := hT.out.kept hB1
  have hl1 := hl.out.kept hB1
  have ho1 := ho.out.kept hB1
  have cL := large_any p len cap q n c2 ls r k3 c3 ops w1 hlm hl1 ho1
  replace hB1 := Lib.hid hB1
  replace hT1 := Lib.hid hT1
  replace hl1 := Lib.hid hl1
  cases hc1 : manyG ls ops len with
  | true =>
    rw [hc1] at cL
    replace cL := Lib.hid cL
    replace ho1 := Lib.hid ho1
    go_wp2_with (first | (go_at_call 5; (with_reducible refine cL.out.mono ?_); rintro e w2 ⟨rfl, rfl⟩))
    go_ret
    exact ⟨rfl, hB1.out⟩
  | false =>
  rw [hc1] at cL
  replace cL := Lib.hid cL
  replace ho1 := Lib.hid ho1
  have hQ0 : WQ w1 ls 0 (.slice none 0 0) w1 := ⟨Below.refl _ _, [], rfl, OwnL.nil _ _, fun i x hx => by simp at hx⟩
  replace hQ0 := Lib.hid hQ0
  go_upto_region 5 with (first | (go_at_call 5; (with_reducible refine cL.out.mono ?_); rintro e w2 ⟨rfl, rfl⟩))
  have hm := many_len hc1
  have hn20 : ∀ v ∈ ls, v.n ≤ 20 := fun v hv => by
    unfold manyG at hc1
    simp only [Bool.or_eq_false_iff, List.any_eq_false, decide_eq_true_eq] at hc1
    have := hc1.2.1 v hv
    omega
  have hlen1 : ls.length = n := hl1.out.1
  replace hn20 := Lib.hid hn20
  replace hlen1 := Lib.hid hlen1
  replace hm := Lib.hid hm
  replace hc1 := Lib.hid hc1
  go_upto_region 7 with (fail)
  go_loopw [13, 34] (fun u i wr => ∃ k : Nat, k ≤ n ∧ i = .int .i64 (k : Int) ∧ Hid (WQ w1 ls k u wr)) (fun _ i _ => n - (intOf i).toNat)
  case atStart => exact ⟨0, by omega, rfl, hQ0⟩
  case round =>
    obtain ⟨k, hk, rfl, hQ⟩ := hrel
    obtain ⟨w3, rfl⟩ : ∃ w3, w3 = wr := ⟨_, rfl⟩
    by_cases hkl : k < n
    · have hkz : (k : Int) < (n : Int) := by omega
      have hT := hQ.out
      have hws := hT.blw.size
      obtain ⟨_, _, hoks, hrw⟩ := hl1.out
      obtain ⟨rb, off, rfl, hbs, hcells⟩ := hrw.resolve_left (by omega)
      obtain ⟨⟨yp, yn, yc, yxs, yall⟩, hy⟩ : ∃ v, ls[k]? = some v := ⟨_, List.getElem?_eq_getElem (by rw [hlen1.out]; exact hkl)⟩
      obtain ⟨q0, q1⟩ := hcells k _ hy
      replace q0 := (hT.blw.cell (p := ⟨rb, off + k * 2, none⟩) hbs).trans q0
      replace q1 := (hT.blw.cell (p := ⟨rb, off + k * 2 + 1, none⟩) hbs).trans q1
      dsimp only at q0 q1
      have hvo := hoks _ (List.mem_of_getElem? hy)
      have hy20 : yn ≤ 20 := hn20.out _ (List.mem_of_getElem? hy)
      have hyl : yxs.length = yn := hvo.row.1
      have hrow : Seq64 w1 yp yn yxs := hvo.row
      obtain ⟨xb, hxb⟩ : ∃ xb : Obj, xb = .cells #[.slice yp yn yc, .int .i64 yall] 29 := ⟨_, rfl⟩
      have hR0 := hT.begin ⟨yp, yn, yc, yxs, yall⟩ xb
      have hbx := heap_alloc_new w3 xb
      rw [hxb] at hbx hR0
      generalize hv1 : w3.alloc (.cells #[.slice yp yn yc, .int .i64 yall] 29) = v1 at *
      have hvs : v1.heap.size = w3.heap.size + 1 := by rw [← hv1]; simp
      have d0 : v1.cell? ⟨w3.heap.size, 0, none⟩ = some (.slice yp yn yc) := obj_cell hbx rfl
      have d1 : v1.cell? ⟨w3.heap.size, 1, none⟩ = some (.int .i64 yall) := obj_cell hbx rfl
      replace hv1 := Lib.hid hv1
      replace hbx := Lib.hid hbx
      replace hR0 := Lib.hid hR0
      replace hcells := Lib.hid hcells
      replace hrw := Lib.hid hrw
      replace hoks := Lib.hid hoks
      replace hvo := Lib.hid hvo
      replace hyl := Lib.hid hyl
      replace hxb := Lib.hid hxb
      replace hrow := Lib.hid hrow
      replace hy := Lib.hid hy
      go_upto_region 9 with (fail)
      change Code.wp _ _ _ _ (w3.alloc (.cells #[.slice yp yn yc, .int .i64 yall] 29))
      rw [hv1.out]
      clear q0 q1
      go_upto_region 11 with (fail)
      go_loopw [45] (fun i wz => ∃ c : Nat, c ≤ yn ∧ i = .int .i64 (c : Int) ∧ Hid (∃ u, WR w1 ls k u13 w3 ⟨yp, yn, yc, yxs, yall⟩ (w3.heap.size + 1) c u wz)) (fun i _ => yn - (intOf i).toNat)
      case atStart => exact ⟨0, by omega, rfl, Lib.hid ⟨_, hR0.out⟩⟩
      case round =>
        obtain ⟨c, hc, rfl, hR⟩ := hrel
        obtain ⟨u, hR⟩ := hR.out
        obtain ⟨up, uc, rfl⟩ := hR.len (by show c ≤ yxs.length; rw [hyl.out]; exact hc)
        by_cases hcn : c < yn
        · have cz : (c : Int) < (yn : Int) := by omega
          obtain ⟨b0, o0, rfl, hlt0, z0⟩ := hrow.out.at (hT.blw.trans (hR.blw.mono hws)) hcn
          have hxc : yxs[c]? = some (yxs.getD c 0) := by rw [List.getD_eq_getElem?_getD, List.getElem?_eq_getElem (by rw [hyl.out]; exact hcn)]; rfl
          generalize yxs.getD c 0 = X at *
          obtain ⟨v', w', hrun, f1, f2, hR2⟩ := hR.app hxc (by omega)
          have f0 : wr.cell? ⟨w3.heap.size + 1, 0, none⟩ = some (.slice up c uc) := obj_cell hR.box rfl
          obtain ⟨p2, n2, rfl⟩ := hR2.len (by show c + 1 ≤ yxs.length; rw [hyl.out]; omega)
          unfold mx at hrun
          replace hR := Lib.hid hR
          replace hrun := Lib.hid hrun
          replace hR2 := Lib.hid hR2
          replace hxc := Lib.hid hxc
          go_wp2_with (first | (at_builtin; refine wpList_run rfl (.tmp 50) (.tmp 53) 27 27 rfl _ _ _ _ rfl rfl hrun.out ?_))
          go_roundw
          case rel => exact ⟨c + 1, by omega, by go_num, Lib.hid ⟨_, hR2.out⟩⟩
          case measure => simp [intOf]; omega
        · obtain rfl : c = yn := by omega
          have cz : ¬ (c : Int) < (c : Int) := by omega
          obtain ⟨v', w', hrun, hQ2⟩ := hR.done (p := up) (cap := uc) rfl hyl.out.symm hy.out hyl.out.symm hy20 (by have := hm.out; have := hlen1.out; omega) hvo.out.all (fun z hz => by
            obtain ⟨j, hj⟩ := List.getElem?_of_mem hz
            have := hvo.out.row.2.1 j
            rw [List.getD_eq_getElem?_getD, hj] at this
            exact this)
          have f0 : wr.cell? ⟨w3.heap.size + 1, 0, none⟩ = some (.slice up c uc) := obj_cell hR.box rfl
          have f1 : wr.cell? ⟨w3.heap.size + 1, 1, none⟩ = some (.int .i64 (mx yall)) := obj_cell hR.box rfl
          unfold mx at hrun f1
          replace hR := Lib.hid hR
          replace hrun := Lib.hid hrun
          replace hQ2 := Lib.hid hQ2
          go_wp2_with (first | (at_builtin; refine wpList_run rfl (.tmp 57) (.tmp 59) 23 23 rfl _ _ _ _ rfl rfl hrun.out ?_))
          go_roundw
          case rel => exact ⟨k + 1, by omega, by go_num, hQ2⟩
          case measure => simp [intOf]; omega
    · obtain rfl : k = n := by omega
      have kz : ¬ (k : Int) < (k : Int) := by omega
      have hm2 := hm.out
      have hl2 := hlen1.out
      have hQd := hQ.out
      rw [← hl2] at hQd
      obtain ⟨wp, wc, ws, rfl, hwl, hLR, hwd⟩ := hQd.done (by omega)
      rw [hl2] at hLR hwl
      have hb1 := hQ.out.blw
      have hTr := hT1.out.kept hb1
      have hlr := hl1.out.kept hb1
      have cM := made_any p len cap cs q k c2 ls w3 hTr hlr
      by_cases hok : newOk (k : Int) (len : Int) = true ∧ chkT cs = 0 ∧ limsOk ls k len = true
      · have hok2 : newOk (k : Int) (len : Int) = true ∧ chkT cs = 0 ∧ limsOk ws k len = true := ⟨hok.1, hok.2.1, limsOk_wide (hwl.trans hl2.symm) hwd hok.2.2⟩
        have hrel0 := RelG.new (LM.new k len) cs hwd (hwl.trans hl2.symm)
        replace cM : Calls Try.prog 6 #[.slice p len cap, .slice q k c2] w3 fun e w' => ∃ gb lb b gL cL gF cF S, e = .returned (.pointer (some ⟨gb, 0, none⟩)) ∧ HW w3 S gb lb b gL cL gF cF (newGM (LM.new k len) cs ls) w' := cM.mono fun e w' ⟨h1, _, _⟩ => by
          obtain ⟨gb, lb, b, gL, cL, gF, cF, S, e1, e2, _⟩ := h1 hok
          exact ⟨gb, lb, b, gL, cL, gF, cF, S, e1, e2⟩
        have cN : ∀ (gb lb b gL cL gF cF : Nat) (S : Nat → Prop) (wz : World), HW w3 S gb lb b gL cL gF cF (newGM (LM.new k len) cs ls) wz → Calls Try.prog 6 #[.slice p len cap, .slice wp k wc] wz fun e w' => ∃ hb kb d hL eL hF eF T, e = .returned (.pointer (some ⟨hb, 0, none⟩)) ∧ TW w3 S gb lb b gL cL gF cF (newGM (LM.new k len) cs ls) T hb kb d hL eL hF eF (newGM (LM.new k len) cs ws) w' := fun gb lb b gL cL gF cF S wz hz => (made_any p len cap cs wp k wc ws wz (hTr.kept hz.blw) (hLR.kept hz.blw)).mono fun e w' ⟨m1, _, _⟩ => by
          obtain ⟨hb, kb, d, hL, eL, hF, eF, T, e1, e2, e3⟩ := m1 hok2
          exact ⟨hb, kb, d, hL, eL, hF, eF, T, e1, TW.made hz (Below.refl _ _) e2 e3⟩
        have hk30 : k3 ≤ 30 := by have := ho1.out.1; omega
        generalize newGM (LM.new k len) cs ls = g0 at *
        generalize newGM (LM.new k len) cs ws = h0 at *
        replace hTr := Lib.hid hTr
        replace hlr := Lib.hid hlr
        replace hLR := Lib.hid hLR
        replace hwd := Lib.hid hwd
        replace hb1 := Lib.hid hb1
        replace cM := Lib.hid cM
        replace cN := Lib.hid cN
        replace hQd := Lib.hid hQd
        replace hok := Lib.hid hok
        replace hok2 := Lib.hid hok2
        replace hrel0 := Lib.hid hrel0
        rw [hl2]
        go_wp2_with fail
        with_reducible refine cM.out.mono ?_
        rintro e w4 ⟨gb, lb, b, gL, cL3, gF, cF, S, rfl, hg4⟩
        have cN2 := cN.out _ _ _ _ _ _ _ _ w4 hg4
        replace hg4 := Lib.hid hg4
        replace cN2 := Lib.hid cN2
        go_wp2_with fail
        with_reducible refine cN2.out.mono ?_
        rintro e w5 ⟨hb, kb, d, hL, eL, hF, eF, T, rfl, hT5⟩
        replace hT5 := Lib.hid hT5
        go_upto_region 21 with (fail)
        go_loopw [78] (fun i wr => ∃ (m : Nat) (g h : GM), m ≤ k3 ∧ i = .int .i64 (m : Int) ∧ Hid (TW w3 S gb lb b gL cL3 gF cF g T hb kb d hL eL hF eF h wr) ∧ Hid (RelG g h)) (fun i _ => k3 - (intOf i).toNat)
        case atStart => exact ⟨0, g0, h0, by omega, rfl, hT5, hrel0⟩
        case round =>
          obtain ⟨m, g, h, hmk, rfl, hTW, hRel⟩ := hrel
          by_cases hmn : m < k3
          · have mz : (m : Int) < (k3 : Int) := by omega
            have hrow := (ho1.out.kept hb1.out).kept hTW.out.blw
            obtain ⟨y, hy⟩ : ∃ y, ops[m]? = some y := ⟨_, List.getElem?_eq_getElem (by have := ho1.out.1; omega)⟩
            obtain ⟨rb2, off2, rfl, z0, z1, z2, z3, z4, z5, z6⟩ := hrow.at hy
            have hyok := (hrow.2.2.1 y (List.mem_of_getElem? hy)).1
            have hym := hyok.m
            have hyc := hyok.c
            have hya := hyok.a
            have hB0 := hTW.out.box (.cells #[.int .i64 y.Do, .int .i64 y.m, .int .i64 y.c, .int .i64 y.v, .int .i64 y.a, .int .i64 y.b, .slice y.p y.len y.cap] 34)
            obtain ⟨e1, hRel2⟩ := hRel.out.inn y.m y.c y.a
            obtain ⟨ob, hob⟩ : ∃ ob, ob = wr.heap.size := ⟨_, rfl⟩
            generalize hv : wr.alloc (.cells #[.int .i64 y.Do, .int .i64 y.m, .int .i64 y.c, .int .i64 y.v, .int .i64 y.a, .int .i64 y.b, .slice y.p y.len y.cap] 34) = v at *
            rw [← hob] at hB0
            have hheld : ∀ {g' h' : GM} {w' : World}, TB w3 S gb lb b gL cL3 gF cF g' T hb kb d hL eL hF eF h' ob (.cells #[.int .i64 y.Do, .int .i64 y.m, .int .i64 y.c, .int .i64 y.v, .int .i64 y.a, .int .i64 y.b, .slice y.p y.len y.cap] 34) w' → (w'.cell? ⟨ob, 0, none⟩ = some (.int .i64 y.Do) ∧ w'.cell? ⟨ob, 1, none⟩ = some (.int .i64 y.m) ∧ w'.cell? ⟨ob, 2, none⟩ = some (.int .i64 y.c) ∧ w'.cell? ⟨ob, 3, none⟩ = some (.int .i64 y.v) ∧ w'.cell? ⟨ob, 4, none⟩ = some (.int .i64 y.a) ∧ w'.cell? ⟨ob, 5, none⟩ = some (.int .i64 y.b) ∧ w'.cell? ⟨ob, 6, none⟩ = some (.slice y.p y.len y.cap)) := fun {g' h' w'} t => by
              obtain ⟨_, _, _, _, _, _, _, _, _, _, t9⟩ := t
              exact ⟨obj_cell t9 rfl, obj_cell t9 rfl, obj_cell t9 rfl, obj_cell t9 rfl, obj_cell t9 rfl, obj_cell t9 rfl, obj_cell t9 rfl⟩
            have hH0 := hheld hB0
            have y0 := hH0.1
            have cI1 := hB0.drew.inn y.m y.c y.a hym hyc hya
            have cI2 : ∀ wz, TB w3 S gb lb b gL cL3 gF cF (g.inn y.m y.c y.a).2 T hb kb d hL eL hF eF h ob (.cells #[.int .i64 y.Do, .int .i64 y.m, .int .i64 y.c, .int .i64 y.v, .int .i64 y.a, .int .i64 y.b, .slice y.p y.len y.cap] 34) wz → Calls Try.prog 7 #[.pointer (some ⟨hb, 0, none⟩), .int .i64 y.m, .int .i64 y.c, .int .i64 y.a] wz fun e w' => e = .returned (.int .i64 (g.inn y.m y.c y.a).1) ∧ TB w3 S gb lb b gL cL3 gF cF (g.inn y.m y.c y.a).2 T hb kb d hL eL hF eF (h.inn y.m y.c y.a).2 ob (.cells #[.int .i64 y.Do, .int .i64 y.m, .int .i64 y.c, .int .i64 y.v, .int .i64 y.a, .int .i64 y.b, .slice y.p y.len y.cap] 34) w' := fun wz t => by
              rw [← e1]
              exact t.inn2 y.m y.c y.a hym hyc hya
            have hxx : ((g.inn y.m y.c y.a).1 != (g.inn y.m y.c y.a).1) = false := by simp
            replace hob := Lib.hid hob
            replace hv := Lib.hid hv
            replace hy := Lib.hid hy
            replace hyok := Lib.hid hyok
            replace hrow := Lib.hid hrow
            replace hB0 := Lib.hid hB0
            replace hH0 := Lib.hid hH0
            replace hRel2 := Lib.hid hRel2
            replace cI1 := Lib.hid cI1
            replace cI2 := Lib.hid cI2
            replace e1 := Lib.hid e1
            have hheld2 : Hid (∀ (g' h' : GM) (w' : World), TB w3 S gb lb b gL cL3 gF cF g' T hb kb d hL eL hF eF h' ob (.cells #[.int .i64 y.Do, .int .i64 y.m, .int .i64 y.c, .int .i64 y.v, .int .i64 y.a, .int .i64 y.b, .slice y.p y.len y.cap] 34) w' → (w'.cell? ⟨ob, 0, none⟩ = some (.int .i64 y.Do) ∧ w'.cell? ⟨ob, 1, none⟩ = some (.int .i64 y.m) ∧ w'.cell? ⟨ob, 2, none⟩ = some (.int .i64 y.c) ∧ w'.cell? ⟨ob, 3, none⟩ = some (.int .i64 y.v) ∧ w'.cell? ⟨ob, 4, none⟩ = some (.int .i64 y.a) ∧ w'.cell? ⟨ob, 5, none⟩ = some (.int .i64 y.b) ∧ w'.cell? ⟨ob, 6, none⟩ = some (.slice y.p y.len y.cap))) := Lib.hid fun g' h' w' t => hheld t
            clear hheld
            go_upto_region 23 with (fail)
            change Code.wp _ _ _ _ (wr.alloc (.cells #[.int .i64 y.Do, .int .i64 y.m, .int .i64 y.c, .int .i64 y.v, .int .i64 y.a, .int .i64 y.b, .slice y.p y.len y.cap] 34))
            rw [hv.out, ← hob.out]
            clear z0 z1 z2 z3 z4 z5 z6
            by_cases hd : y.Do = 0
            · go_upto_region 24 with (fail)
              (try simp only [Act.put])
              clear y0
              generalize (g.inn y.m y.c y.a).1 = X at *
              go_region_held3 (fun w' => (w'.cell? ⟨ob, 0, none⟩ = some (.int .i64 y.Do) ∧ w'.cell? ⟨ob, 1, none⟩ = some (.int .i64 y.m) ∧ w'.cell? ⟨ob, 2, none⟩ = some (.int .i64 y.c) ∧ w'.cell? ⟨ob, 3, none⟩ = some (.int .i64 y.v) ∧ w'.cell? ⟨ob, 4, none⟩ = some (.int .i64 y.a) ∧ w'.cell? ⟨ob, 5, none⟩ = some (.int .i64 y.b) ∧ w'.cell? ⟨ob, 6, none⟩ = some (.slice y.p y.len y.cap))) (exact hH0.out)
                (first
                  | (go_at_call 7; (with_reducible refine cI1.out.mono ?_); rintro e wa ⟨rfl, hBa⟩; have hHa := hheld2.out _ _ _ hBa; replace hBa := Lib.hid hBa; replace hH0 := Lib.hid hHa; clear hHa)
                  | (go_at_call 7; (with_reducible refine (cI2.out _ hBa.out).mono ?_); rintro e wd ⟨rfl, hBd⟩; have hHd := hheld2.out _ _ _ hBd; replace hBd := Lib.hid hBd; replace hH0 := Lib.hid hHd; clear hHd))
              have hT9 := Lib.hid hBd.out.tw
              go_wp2_with fail
              go_roundw
              case rel => exact ⟨m + 1, _, _, by omega, by go_num, hT9, hRel2⟩
              case measure => simp [intOf]; omega
            · have hd2 : (y.Do == 0) = false := by simpa using hd
              have hT9 := Lib.hid hB0.out.tw
              go_wp2_with fail
              go_roundw
              case rel => exact ⟨m + 1, g, h, by omega, by go_num, hT9, hRel⟩
              case measure => simp [intOf]; omega
          · obtain rfl : m = k3 := by omega
            have mz : ¬ (m : Int) < (m : Int) := by omega
            have hOk := hTW.out.ok
            have hps : ∀ wz : World, PRow (wz.alloc (.cells #[.int .i64 me, .int .i64 cu, .int .i64 (-1000)] 39)) (some ⟨wz.heap.size, 0, none⟩) 1 [⟨me, cu, -1000⟩] := fun wz => prow_one h1 h2 (by unfold In64; omega)
            have hal : ∀ wz : World, Below wz.heap.size wz (wz.alloc (.cells #[.int .i64 me, .int .i64 cu, .int .i64 (-1000)] 39)) := fun wz => (Below.refl _ _).alloc (Nat.le_refl _) _
            have cF1 := hTW.out.fails 1 me (hal wr) (hps wr) (.inr ⟨_, _, rfl, .inr (Nat.le_refl _)⟩) (by omega)
            have hs1 := hRel.out.fails hOk me [⟨me, cu, -1000⟩]
            have hOk0 := hOk
            replace hps := Lib.hid hps
            replace hal := Lib.hid hal
            replace cF1 := Lib.hid cF1
            replace hOk := Lib.hid hOk
            replace hs1 := Lib.hid hs1
            go_wp2_with fail
            with_reducible refine cF1.out.mono ?_
            rintro e w6 ⟨rfl, hT6⟩
            have cF2 := hT6.fails2 1 me (hal.out w6) (hps.out w6) (.inr ⟨_, _, rfl, .inr (Nat.le_refl _)⟩) (by omega)
            replace cF2 := Lib.hid cF2
            replace hT6 := Lib.hid hT6
            go_wp2_with fail
            with_reducible refine cF2.out.mono ?_
            rintro e w7 ⟨rfl, hT7⟩
            replace hT7 := Lib.hid hT7
            have hz : Go.bits .andNot .i64 (h.fails me [⟨me, cu, -1000⟩]) (g.fails me [⟨me, cu, -1000⟩]) = 0 := hs1.out.andNot
            have cF3 := hT7.out.fails (p := none) (len := 0) (ps := []) 0 me (Below.refl _ _) (by refine ⟨rfl, ?_, .inl rfl⟩; simp) (.inl rfl) (by omega)
            replace cF3 := Lib.hid cF3
            replace hT7 := Lib.hid hT7
            go_wp2_with fail
            with_reducible refine cF3.out.mono ?_
            rintro e w8 ⟨rfl, hT8⟩
            have cI := hT8.inn me cu am h1 h2 h3
            have hin := inn_fails (g := g) hOk.out (m := me) (c := cu) (a := am)
            replace hT8 := Lib.hid hT8
            by_cases hE : (g.inn me cu am).1 = 0
            · have hz2 := (hin hE).andNot
              rw [hE] at cI
              replace hE := Lib.hid hE
              replace hin := Lib.hid hin
              replace cI := Lib.hid cI
              go_wp2_with fail
              with_reducible refine cI.out.mono ?_
              rintro e w9 ⟨rfl, hT9⟩
              have cF4 := hT9.fails (p := none) (len := 0) (ps := []) 0 me (Below.refl _ _) (by refine ⟨rfl, ?_, .inl rfl⟩; simp) (.inl rfl) (by omega)
              replace cF4 := Lib.hid cF4
              replace hT9 := Lib.hid hT9
              go_wp2_with fail
              with_reducible refine cF4.out.mono ?_
              rintro e w10 ⟨rfl, hT10⟩
              replace hT10 := Lib.hid hT10
              go_wp2_with fail
              go_ret
              exact ⟨rfl, hB1.out.trans ((hb1.out.trans (hT10.out.blw.mono hb1.out.size)).mono hB1.out.size)⟩
            · have hne : ((g.inn me cu am).1 != 0) = true := by simpa using hE
              replace hE := Lib.hid hE
              replace hin := Lib.hid hin
              replace cI := Lib.hid cI
              go_wp2_with fail
              with_reducible refine cI.out.mono ?_
              rintro e w9 ⟨rfl, hT9⟩
              replace hT9 := Lib.hid hT9
              go_wp2_with fail
              go_ret
              exact ⟨rfl, hB1.out.trans ((hb1.out.trans (hT9.out.blw.mono hb1.out.size)).mono hB1.out.size)⟩
      · replace cM : Calls Try.prog 6 #[.slice p len cap, .slice q k c2] w3 fun e w' => e = .returned (.pointer none) ∧ Below w3.heap.size w3 w' := cM.mono fun e w' ⟨_, h2, h3⟩ => ⟨h2 hok, h3⟩
        have cN : ∀ wz, Below w3.heap.size w3 wz → Calls Try.prog 6 #[.slice p len cap, .slice wp k wc] wz fun e w' => ∃ P, e = .returned (.pointer P) ∧ Below wz.heap.size wz w' := fun wz hz => (made_any p len cap cs wp k wc ws wz (hTr.kept hz) (hLR.kept hz)).mono fun e w' ⟨m1, m2, m3⟩ => by
          by_cases ho2 : newOk (k : Int) (len : Int) = true ∧ chkT cs = 0 ∧ limsOk ws k len = true
          · obtain ⟨gb, _, _, _, _, _, _, _, e1, _⟩ := m1 ho2
            exact ⟨_, e1, m3⟩
          · exact ⟨_, m2 ho2, m3⟩
        replace hTr := Lib.hid hTr
        replace hlr := Lib.hid hlr
        replace hLR := Lib.hid hLR
        replace hwd := Lib.hid hwd
        replace hb1 := Lib.hid hb1
        replace cM := Lib.hid cM
        replace cN := Lib.hid cN
        replace hQd := Lib.hid hQd
        replace hok := Lib.hid hok
        rw [hl2]
        go_wp2_with fail
        with_reducible refine cM.out.mono ?_
        rintro e w4 ⟨rfl, hb4⟩
        have cN2 := cN.out w4 hb4
        replace hb4 := Lib.hid hb4
        replace cN2 := Lib.hid cN2
        go_wp2_with fail
        with_reducible refine cN2.out.mono ?_
        rintro e w5 ⟨P, rfl, hb5⟩
        replace hb5 := Lib.hid hb5
        go_wp2_with fail
        go_ret
        exact ⟨rfl, hB1.out.trans ((hb1.out.trans ((hb4.out.trans (hb5.out.mono hb4.out.size)).mono hb1.out.size)).mono hB1.out.size)⟩
end Go.Proofs.Ytljclgphgojphaa
