/- A ledger does as the reference's: the law's walk over any ledger that keeps its contracts. -/
import Derived.Test.YtghebijikdnikaaLI3
import Derived.Test.YtghebijikdnikaaLJ2
import Derived.Test.YtghebijikdnikaaLG4
namespace Go.Proofs.Ytghebijikdnikaa
open Go.RowKit
set_option linter.unusedVariables false

theorem RL.live (b : Nat) (l : LM) : Live fun P w => RL P w b l := by
  refine ⟨?_, ?_⟩
  · rintro P w w' F ⟨gB, cB, gN, cN, g, cp, h⟩ hK hF
    exact RL.of (h.kept fun j hj hp => hK.block j hj (hF j hj hp))
  · rintro P Q w ⟨gB, cB, gN, cN, g, cp, h⟩ hq
    obtain ⟨cs, r1, _⟩ := h.rows
    exact RL.of ⟨h.obj, h.rows, h.nos, h.bal, h.apart, hq _ (obj_lt h.obj) h.own.1, hq _ (obj_lt r1) h.own.2.1, hq _ h.nos.lt h.own.2.2.1, fun m hm => hq _ (h.bal m hm).lt (h.own.2.2.2 m hm)⟩
/-- the two ledgers, apart, beside what stays -/
def AP (I : LI) (w1 : World) (bx b b2 : Nat) (l k : LM) (W : World) : Prop := Apart (fun j => j < w1.heap.size ∨ j = bx) (fun P w => I.IsL P w b l) (fun P w => RL P w b2 k) W
theorem AP.below {I : LI} {w1 W W' : World} {bx b b2 : Nat} {l k : LM} (h : AP I w1 bx b b2 l k W) (hb : Below W.heap.size W W') : AP I w1 bx b b2 l k W' := Apart.below (I.live b l) (RL.live b2 k) h hb
/-- where the two, the box and what stays are -/
structure DW (I : LI) (w1 : World) (bx b b2 : Nat) (l k : LM) (x : LOp) (W : World) : Prop where
  ap : AP I w1 bx b b2 l k W
  blw : Below w1.heap.size w1 W
  bl : bx < W.heap.size
  op : OpAt W bx 0 x
theorem DW.step {I : LI} {w1 W W' : World} {bx b b2 : Nat} {l k l' k' : LM} {x : LOp} (h : DW I w1 bx b b2 l k x W) (ha : AP I w1 bx b b2 l' k' W') (hk : Kp (fun j => ¬ (j < w1.heap.size ∨ j = bx)) W W') : DW I w1 bx b b2 l' k' x W' :=
  ⟨ha, h.blw.trans (hk.below h.blw.size (fun j hj e => e (.inl hj))), Nat.lt_of_lt_of_le h.bl hk.size, hk.cell h.op.1 (fun e => e (.inr rfl)), hk.cell h.op.2.1 (fun e => e (.inr rfl)), hk.cell h.op.2.2.1 (fun e => e (.inr rfl)), hk.cell h.op.2.2.2.1 (fun e => e (.inr rfl)), hk.cell h.op.2.2.2.2.1 (fun e => e (.inr rfl)), hk.cell h.op.2.2.2.2.2.1 (fun e => e (.inr rfl)), hk.cell h.op.2.2.2.2.2.2 (fun e => e (.inr rfl))⟩
theorem DW.below {I : LI} {w1 W W' : World} {bx b b2 : Nat} {l k : LM} {x : LOp} (h : DW I w1 bx b b2 l k x W) (hb : Below W.heap.size W W') : DW I w1 bx b b2 l k x W' := h.step (h.ap.below hb) (Kp.of_below hb)
theorem dw_prog (I : LI) {w1 W : World} {bx b b2 : Nat} {l k : LM} {x : LOp} (h : DW I w1 bx b b2 l k x W) (hg : l.Good) (hx : x.Ok W) (hl : x.len ≤ 30) :
    Calls Try.prog 11 #[.pointer (some ⟨b, 0, none⟩), .agg x.arr] W fun e w' => e = .returned (.int .i64 (l.doo x).1) ∧ DW I w1 bx b b2 (l.doo x).2 k x w' :=
  (Apart.call (α := Unit) (φ := fun _ e => e = .returned (.int .i64 (l.doo x).1)) (X' := fun _ P w => I.IsL P w b (l.doo x).2) (I.live b l) (fun _ => I.live b _) (RL.live b2 k) (fun j hj => by have := h.blw.size; have := h.bl; omega) h.ap
    (fun P hX hP => (do_any I P b l x W hX hg hx hl hP).mono fun e w' h3 => ⟨(), h3.1, h3.2.1, h3.2.2⟩)).mono fun e w' ⟨_, h1, h2, h3⟩ => ⟨h1, h.step h2 h3⟩
theorem dw_ref (I : LI) {w1 W : World} {bx b b2 : Nat} {l k : LM} {x : LOp} {f : FuncId} {args : Array Value} {R : Int × LM} (h : DW I w1 bx b b2 l k x W) (hc : ∀ P : Nat → Prop, RL P W b2 k → (∀ i, W.heap.size ≤ i → P i) → Calls Try.prog f args W (RDid P b2 R W)) :
    Calls Try.prog f args W fun e w' => e = .returned (.int .i64 R.1) ∧ DW I w1 bx b b2 l R.2 x w' :=
  (Apart.call (α := Unit) (φ := fun _ e => e = .returned (.int .i64 R.1)) (X' := fun _ P w => RL P w b2 R.2) (RL.live b2 k) (fun _ => RL.live b2 _) (I.live b l) (fun j hj => by have := h.blw.size; have := h.bl; omega) h.ap.swap
    (fun P hX hP => (hc P hX hP).mono fun e w' h3 => ⟨(), h3.1, h3.2.1, h3.2.2⟩)).mono fun e w' ⟨_, h1, h2, h3⟩ => ⟨h1, h.step h2.swap h3⟩
/-- calls that only read, or make what is new -/
theorem dw_new (I : LI) {w1 W : World} {bx b b2 : Nat} {l k : LM} {x : LOp} {f : FuncId} {args : Array Value} {v : Value} (h : DW I w1 bx b b2 l k x W) (hc : Calls Try.prog f args W fun e w' => e = .returned v ∧ Below W.heap.size W w') :
    Calls Try.prog f args W fun e w' => e = .returned v ∧ DW I w1 bx b b2 l k x w' := hc.mono fun e w' h2 => ⟨h2.1, h.below h2.2⟩
/-- the law's way, between operations -/
structure DS (I : LI) (w1 : World) (b b2 : Nat) (l : LM) (W : World) : Prop where
  ap : Apart (fun j => j < w1.heap.size) (fun P w => I.IsL P w b l) (fun P w => RL P w b2 l) W
  good : l.Good
  blw : Below w1.heap.size w1 W
theorem DS.below {I : LI} {w1 W W' : World} {b b2 : Nat} {l : LM} (h : DS I w1 b b2 l W) (hb : Below W.heap.size W W') : DS I w1 b b2 l W' := ⟨Apart.below (I.live b l) (RL.live b2 l) h.ap hb, h.good, h.blw.trans (hb.mono h.blw.size)⟩
theorem DS.of {I : LI} {w1 W : World} {bx b b2 : Nat} {l : LM} {x : LOp} (h : DW I w1 bx b b2 l l x W) (hg : l.Good) : DS I w1 b b2 l W := ⟨h.ap.less (fun j hj => .inl hj), hg, h.blw⟩

set_option maxHeartbeats 40000000 in
set_option maxRecDepth 100000 in
theorem ledgerDoes_any (I : LI) (nm nc : Int) (p : Option Addr) (len cap : Nat) (ops : List LOp) (w : World) (hnc64 : In64 nc) (ho : OpsRow w p len ops) :
    Calls Try.prog 3 #[.int .i64 nm, .int .i64 nc, .slice p len cap] w fun e w' => e = .returned (.bool true) ∧ Below w.heap.size w w' := by
  have hA := Lib.hid fun w => awakeL_any I w
  replace ho := Lib.hid ho
  replace hnc64 := Lib.hid hnc64
  go_enter Try.func3, Try.ntmps3
  go_wp2_with fail
  with_reducible refine (hA.out _).mono ?_
  rintro e w1 ⟨rfl, hB1⟩
  have ho1 := ho.out.kept hB1
  have cL1 := large_any p len cap ops w1 ho1
  replace hB1 := Lib.hid hB1
  replace ho1 := Lib.hid ho1
  cases hc1 : manyO ops with
  | true =>
    rw [hc1] at cL1
    replace cL1 := Lib.hid cL1
    go_wp2_with fail
    with_reducible refine cL1.out.mono ?_
    rintro e z ⟨rfl, rfl⟩
    go_wp2_with fail
    go_ret
    exact ⟨rfl, hB1.out⟩
  | false =>
  rw [hc1] at cL1
  replace cL1 := Lib.hid cL1
  have cN := Lib.hid (new_st I nm nc w1)
  have hl40 : len ≤ 40 := by have := many_len hc1; have := ho1.out.1; omega
  go_wp2_with fail
  with_reducible refine cL1.out.mono ?_
  rintro e z ⟨rfl, rfl⟩
  go_wp2_with fail
  with_reducible refine cN.out.mono ?_
  rintro e w2 ⟨pv, er, rfl, hy⟩
  obtain ⟨hy, hn⟩ := hy.out
  have cM : Calls Try.prog 10 #[.int .i64 nm, .int .i64 nc] w2 (NewP nm nc w2) := newRL_any nm nc w2
  cases hok : newOk nm nc with
  | false =>
    obtain ⟨rfl, rfl, hB2⟩ := hn hok
    clear hy hn
    replace hB2 := Lib.hid hB2
    replace cM := Lib.hid cM
    go_wp2_with fail
    with_reducible refine cM.out.mono ?_
    rintro e w3 ⟨hy3, hn3, hB3⟩
    have e3 := hn3 hok
    subst e3
    have hBf := Lib.hid (hB1.out.trans ((hB2.out.trans (hB3.mono hB2.out.size)).mono hB1.out.size))
    clear hy3 hn3
    replace hB3 := Lib.hid hB3
    go_wp2_with fail
    go_loop [11] (fun i => i = .int .i64 (0 : Int)) (fun _ => 0)
    case atStart => rfl
    case round =>
      obtain rfl := hrel
      go_wp2_with fail
      go_ret
      exact ⟨rfl, hBf.out⟩
  | true =>
    obtain ⟨b, rfl, rfl, hO⟩ := hy hok
    clear hy hn
    have hnb := newOk_iff.1 hok
    replace cM := Lib.hid cM
    replace hO := Lib.hid hO
    go_wp2_with fail
    with_reducible refine cM.out.mono ?_
    rintro e w3 ⟨hy3, hn3, hB3⟩
    obtain ⟨b2, rfl, hR3⟩ := hy3 hok
    clear hy3 hn3
    obtain ⟨d, rfl⟩ : ∃ d : Nat, nc = d := ⟨nc.toNat, by omega⟩
    have hD0 : DS I w1 b b2 ((LM.new nm.toNat (d : Int).toNat).dos (ops.take 0)) w3 := by
      have k3 := Kp.of_below (F := fun _ => False) hB3
      have a2 := (I.live b _).weak hO.out.led (Q := fun j => w1.heap.size ≤ j ∧ j < w2.heap.size) (fun j hj h => ⟨h, hj⟩)
      have a3 := (I.live b _).kept a2 k3 (fun _ _ _ h => h)
      have c3 := (RL.live b2 _).weak hR3 (Q := fun j => w2.heap.size ≤ j ∧ j < w3.heap.size) (fun j hj h => ⟨h, hj⟩)
      exact ⟨⟨_, _, a3, c3, fun j hj => ⟨by omega, by omega, by have := hB3.size; omega⟩, fun j hj => ⟨by have := hO.out.blw.size; omega, hj.2⟩⟩, hO.out.good, hO.out.blw.trans (hB3.mono hO.out.blw.size)⟩
    have hg0 : (LM.new nm.toNat (d : Int).toNat).Good := hO.out.good
    have hd0 : (LM.new nm.toNat (d : Int).toNat).nc = d := by show (d : Int).toNat = d; simp
    generalize LM.new nm.toNat (d : Int).toNat = l0 at *
    replace hD0 := Lib.hid hD0
    replace hR3 := Lib.hid hR3
    replace hB3 := Lib.hid hB3
    replace hg0 := Lib.hid hg0
    replace hd0 := Lib.hid hd0
    replace hok := Lib.hid hok
    replace hc1 := Lib.hid hc1
    go_wp2_with fail
    go_loopw [11] (fun i wr => ∃ k : Nat, k ≤ len ∧ i = .int .i64 (k : Int) ∧ Hid (DS I w1 b b2 (l0.dos (ops.take k)) wr)) (fun i _ => len - (intOf i).toNat)
    case atStart => exact ⟨0, by omega, rfl, hD0⟩
    case round =>
      obtain ⟨k, hk, rfl, hS⟩ := hrel
      by_cases hkn : k < len
      · have kz : (k : Int) < (len : Int) := by omega
        obtain ⟨x, hx⟩ : ∃ x, ops[k]? = some x := ⟨_, List.getElem?_eq_getElem (by have := ho1.out.1; omega)⟩
        have hrow := ho1.out.kept hS.out.blw
        obtain ⟨rb, off, rfl, x0, x1, x2, x3, x4, x5, x6⟩ := hrow.at hx
        have hxl : x.len ≤ 30 := many_one hc1.out (List.mem_of_getElem? hx)
        have hxok : ∀ W', Below w1.heap.size w1 W' → x.Ok W' := fun W' h => ((ho1.out.kept h).2.2.1 x (List.mem_of_getElem? hx)).1
        have hnw := heap_alloc_new wr (.cells #[.int .i64 0, .int .i64 0, .int .i64 0, .int .i64 0, .int .i64 0, .int .i64 0, .slice none 0 0] 34)
        have hobj := setRow_heap _ _ _ x.arr _ _ hnw
        have hWB : Below wr.heap.size wr ((wr.alloc (.cells #[.int .i64 0, .int .i64 0, .int .i64 0, .int .i64 0, .int .i64 0, .int .i64 0, .slice none 0 0] 34)).setRow wr.heap.size x.arr) := below_setRow ((Below.refl _ _).alloc (Nat.le_refl _) _) (Nat.le_refl _) _
        have hWs : ((wr.alloc (.cells #[.int .i64 0, .int .i64 0, .int .i64 0, .int .i64 0, .int .i64 0, .int .i64 0, .slice none 0 0] 34)).setRow wr.heap.size x.arr).heap.size = wr.heap.size + 1 := by rw [setRow_size]; simp
        have hOp : OpAt ((wr.alloc (.cells #[.int .i64 0, .int .i64 0, .int .i64 0, .int .i64 0, .int .i64 0, .int .i64 0, .slice none 0 0] 34)).setRow wr.heap.size x.arr) wr.heap.size 0 x := ⟨obj_cell hobj rfl, obj_cell hobj rfl, obj_cell hobj rfl, obj_cell hobj rfl, obj_cell hobj rfl, obj_cell hobj rfl, obj_cell hobj rfl⟩
        have hds := dos_succ l0 ops k x hx
        have hdl := dos_like l0 (ops.take (k + 1)) hg0.out
        have hD : DW I w1 wr.heap.size b b2 (l0.dos (ops.take k)) (l0.dos (ops.take k)) x ((wr.alloc (.cells #[.int .i64 0, .int .i64 0, .int .i64 0, .int .i64 0, .int .i64 0, .int .i64 0, .slice none 0 0] 34)).setRow wr.heap.size x.arr) :=
          ⟨Apart.boxed (I.live b _) (RL.live b2 _) hS.out.ap hWB hWs, hS.out.blw.trans (hWB.mono hS.out.blw.size), by rw [hWs]; omega, hOp⟩
        have hgk := hS.out.good
        generalize l0.dos (ops.take k) = l at *
        have hgr := (doo_good hgk x).1
        rw [← hds] at hgr
        have cD := dw_prog I hD hgk (hxok _ hD.blw) hxl
        rw [← hds] at cD
        obtain ⟨y0, y1, y2, y3, y4, y5, y6⟩ := hOp
        have hre : (l.doo x).2 = l0.dos (ops.take (k + 1)) := hds.symm
        unfold LOp.arr at *
        replace hnw := Lib.hid hnw
        replace hobj := Lib.hid hobj
        replace hWB := Lib.hid hWB
        replace hWs := Lib.hid hWs
        replace hD := Lib.hid hD
        replace cD := Lib.hid cD
        replace hds := Lib.hid hds
        replace hdl := Lib.hid hdl
        replace hrow := Lib.hid hrow
        replace hxok := Lib.hid hxok
        replace hgk := Lib.hid hgk
        replace hgr := Lib.hid hgr
        replace hre := Lib.hid hre
        replace hx := Lib.hid hx
        go_upto_region 13 with (first | (refine wpList_store_row rfl 34 _ _ rfl wr.heap.size _ rfl rfl 34 _ hnw.out (by kernel_rfl) rfl (by simp [Value.oneCell']) ?_))
        clear x0 x1 x2 x3 x4 x5 x6
        go_wp2_with fail
        with_reducible refine cD.out.mono ?_
        rintro e w5 ⟨rfl, hD5⟩
        clear y0 y1 y2 y3 y4 y5 y6
        obtain ⟨y0, y1, y2, y3, y4, y5, y6⟩ := hD5.op
        generalize hln : l0.dos (ops.take (k + 1)) = ln at *
        replace hln := Lib.hid hln
        replace hD5 := Lib.hid hD5
        have h0' : x.Do = 0 → l.doo x = l.inn x.m x.c x.a := fun h => by unfold LM.doo; rw [if_pos h]
        have h1' : x.Do ≠ 0 → x.Do = 1 → l.doo x = l.out x.m x.c x.a := fun h h2 => by unfold LM.doo; rw [if_neg h, if_pos h2]
        have h3' : x.Do ≠ 0 → x.Do ≠ 1 → x.Do = 3 → l.doo x = l.swap x.m x.c x.v x.a x.g := fun h h2 h3 => by unfold LM.doo; rw [if_neg h, if_neg h2, if_pos h3]
        have h4' : x.Do ≠ 0 → x.Do ≠ 1 → x.Do ≠ 3 → l.doo x = l.post x.ps := fun h h2 h3 => by unfold LM.doo; rw [if_neg h, if_neg h2, if_neg h3]
        have hxk := hxok.out _ hD5.out.blw
        have cY0 : x.Do = 0 → Calls Try.prog 12 #[.pointer (some ⟨b2, 0, none⟩), .int .i64 x.m, .int .i64 x.c, .int .i64 x.a] w5 fun e w' => e = .returned (.int .i64 (l.doo x).1) ∧ DW I w1 wr.heap.size b b2 ln ln x w' := fun hh => by
          have := dw_ref I hD5.out (R := l.inn x.m x.c x.a) (fun P hX hP => innRL_any x.m x.c x.a w5 hX hgk.out.ok hxk.a)
          rw [← h0' hh, hre.out] at this
          exact this
        have cY1 : x.Do ≠ 0 → x.Do = 1 → Calls Try.prog 13 #[.pointer (some ⟨b2, 0, none⟩), .int .i64 x.m, .int .i64 x.c, .int .i64 x.a] w5 fun e w' => e = .returned (.int .i64 (l.doo x).1) ∧ DW I w1 wr.heap.size b b2 ln ln x w' := fun hh h2 => by
          have := dw_ref I hD5.out (R := l.out x.m x.c x.a) (fun P hX hP => outRL_any x.m x.c x.a w5 hX hgk.out.ok hxk.a)
          rw [← h1' hh h2, hre.out] at this
          exact this
        have cY3 : x.Do ≠ 0 → x.Do ≠ 1 → x.Do = 3 → Calls Try.prog 14 #[.pointer (some ⟨b2, 0, none⟩), .int .i64 x.m, .int .i64 x.c, .int .i64 x.v, .int .i64 x.a, .int .i64 x.g] w5 fun e w' => e = .returned (.int .i64 (l.doo x).1) ∧ DW I w1 wr.heap.size b b2 ln ln x w' := fun hh h2 h3 => by
          have := dw_ref I hD5.out (R := l.swap x.m x.c x.v x.a x.g) (fun P hX hP => swapRL_any x.m x.c x.v x.a x.g w5 hX hgk.out.ok hxk.a hxk.g)
          rw [← h3' hh h2 h3, hre.out] at this
          exact this
        have cY4 : x.Do ≠ 0 → x.Do ≠ 1 → x.Do ≠ 3 → Calls Try.prog 15 #[.pointer (some ⟨b2, 0, none⟩), .slice x.p x.len x.cap] w5 fun e w' => e = .returned (.int .i64 (l.doo x).1) ∧ DW I w1 wr.heap.size b b2 ln ln x w' := fun hh h2 h3 => by
          have := dw_ref I hD5.out (R := l.post x.ps) (fun P hX hP => postRL_any x.p x.len x.cap x.ps w5 hX hgk.out.ok hxk.b hxl hP)
          rw [← h4' hh h2 h3, hre.out] at this
          exact this
        replace cY0 := Lib.hid cY0
        replace cY1 := Lib.hid cY1
        replace cY3 := Lib.hid cY3
        replace cY4 := Lib.hid cY4
        replace hxk := Lib.hid hxk
        clear h0' h1' h3' h4'
        generalize (l.doo x).1 = g at *
        go_upto_block 2 with fail
        go_cut [14] from 62 to 99 (fun v14 wc => v14 = .int .i64 g ∧ Hid (DW I w1 wr.heap.size b b2 ln ln x wc))
        case first =>
          by_cases d0 : x.Do = 0
          · have b0 : (x.Do == 0) = true := by simpa using d0
            have cY := Lib.hid (cY0.out d0)
            replace d0 := Lib.hid d0
            go_wp2_with fail
            with_reducible refine cY.out.mono ?_
            rintro e w6 ⟨rfl, hD6⟩
            replace hD6 := Lib.hid hD6
            go_wp2_with fail
            all_goals go_meet
            all_goals (try case rel => exact ⟨rfl, hD6⟩)
          have b0 : (x.Do == 0) = false := by simpa using d0
          by_cases d1 : x.Do = 1
          · have b1 : (x.Do == 1) = true := by simpa using d1
            have cY := Lib.hid (cY1.out d0 d1)
            replace d0 := Lib.hid d0
            replace d1 := Lib.hid d1
            go_wp2_with fail
            with_reducible refine cY.out.mono ?_
            rintro e w6 ⟨rfl, hD6⟩
            replace hD6 := Lib.hid hD6
            go_wp2_with fail
            all_goals go_meet
            all_goals (try case rel => exact ⟨rfl, hD6⟩)
          have b1 : (x.Do == 1) = false := by simpa using d1
          by_cases d3 : x.Do = 3
          · have b3 : (x.Do == 3) = true := by simpa using d3
            have cY := Lib.hid (cY3.out d0 d1 d3)
            replace d0 := Lib.hid d0
            replace d1 := Lib.hid d1
            replace d3 := Lib.hid d3
            go_wp2_with fail
            with_reducible refine cY.out.mono ?_
            rintro e w6 ⟨rfl, hD6⟩
            replace hD6 := Lib.hid hD6
            go_wp2_with fail
            all_goals go_meet
            all_goals (try case rel => exact ⟨rfl, hD6⟩)
          have b3 : (x.Do == 3) = false := by simpa using d3
          have cY := Lib.hid (cY4.out d0 d1 d3)
          replace d0 := Lib.hid d0
          replace d1 := Lib.hid d1
          replace d3 := Lib.hid d3
          go_wp2_with fail
          with_reducible refine cY.out.mono ?_
          rintro e w6 ⟨rfl, hD6⟩
          replace hD6 := Lib.hid hD6
          go_wp2_with fail
          all_goals go_meet
          all_goals (try case rel => exact ⟨rfl, hD6⟩)
        case rest =>
          obtain ⟨rfl, hDc⟩ := hcut
          clear y0 y1 y2 y3 y4 y5 y6
          have cT1 : ∀ W, DW I w1 wr.heap.size b b2 ln ln x W → Calls Try.prog 16 #[.pointer (some ⟨b, 0, none⟩)] W fun e w' => e = .returned (.string ⟨ln.text.toArray⟩) ∧ DW I w1 wr.heap.size b b2 ln ln x w' := fun W h => by
            refine dw_new I h ?_
            obtain ⟨PF, RF, hX, _⟩ := h.ap
            exact I.text hX hgr.out
          have cT2 : ∀ W, DW I w1 wr.heap.size b b2 ln ln x W → Calls Try.prog 17 #[.pointer (some ⟨b2, 0, none⟩)] W fun e w' => e = .returned (.string ⟨ln.text.toArray⟩) ∧ DW I w1 wr.heap.size b b2 ln ln x w' := fun W h => by
            refine dw_new I h ?_
            obtain ⟨PF, RF, _, ⟨_, _, _, _, _, _, hY⟩, _⟩ := h.ap
            exact textRL_any W hY hgr.out.ok
          have cG1 : ∀ W, DW I w1 wr.heap.size b b2 ln ln x W → Calls Try.prog 18 #[.pointer (some ⟨b, 0, none⟩), .int .i64 x.m, .int .i64 x.c] W fun e w' => e = .returned (.int .i64 (ln.get x.m x.c)) ∧ DW I w1 wr.heap.size b b2 ln ln x w' := fun W h => by
            refine dw_new I h ?_
            obtain ⟨PF, RF, hX, _⟩ := h.ap
            exact I.get x.m x.c hX
          have cG2 : ∀ W, DW I w1 wr.heap.size b b2 ln ln x W → Calls Try.prog 19 #[.pointer (some ⟨b2, 0, none⟩), .int .i64 x.m, .int .i64 x.c] W fun e w' => e = .returned (.int .i64 (ln.get x.m x.c)) ∧ DW I w1 wr.heap.size b b2 ln ln x w' := fun W h => by
            refine dw_new I h ?_
            obtain ⟨PF, RF, _, ⟨_, _, _, _, _, _, hY⟩, _⟩ := h.ap
            exact (getRL_any x.m x.c W hY).mono fun e w' h2 => ⟨h2.1, by rw [← h2.2]; exact Below.refl _ _⟩
          have hcell : ∀ W, DW I w1 wr.heap.size b b2 ln ln x W → W.cell? ⟨wr.heap.size, 1, none⟩ = some (.int .i64 x.m) ∧ W.cell? ⟨wr.heap.size, 2, none⟩ = some (.int .i64 x.c) := fun W h => ⟨h.op.2.1, h.op.2.2.1⟩
          have hDw := Lib.hid (hDc.out.below (Below.refl _ wc).drew)
          have hOq := Lib.hid (hcell _ hDw.out)
          generalize (⟨ln.text.toArray⟩ : ByteArray) = T at *
          generalize ln.get x.m x.c = gv at *
          replace cT1 := Lib.hid cT1
          replace cT2 := Lib.hid cT2
          replace cG1 := Lib.hid cG1
          replace cG2 := Lib.hid cG2
          replace hcell := Lib.hid hcell
          go_upto_region 23 with (fail)
          go_cut [124] from 100 to 123 (fun v124 wd => v124 = .bool false ∧ Hid (DW I w1 wr.heap.size b b2 ln ln x wd))
          case first =>
            (try simp only [Act.put])
            go_region_held3 (fun w' => w'.cell? ⟨wr.heap.size, 1, none⟩ = some (.int .i64 x.m) ∧ w'.cell? ⟨wr.heap.size, 2, none⟩ = some (.int .i64 x.c)) (exact hOq.out)
              (first
                | (go_at_call 16; (with_reducible refine (cT1.out _ hDw.out).mono ?_); rintro e wa ⟨rfl, hDa⟩; replace hOq := Lib.hid (hcell.out _ hDa); replace hDa := Lib.hid hDa)
                | (go_at_call 17; (with_reducible refine (cT2.out _ hDa.out).mono ?_); rintro e wb ⟨rfl, hDb⟩; replace hOq := Lib.hid (hcell.out _ hDb); replace hDb := Lib.hid hDb)
                | (go_at_call 18; (with_reducible refine (cG1.out _ hDb.out).mono ?_); rintro e wd ⟨rfl, hDd⟩; replace hOq := Lib.hid (hcell.out _ hDd); replace hDd := Lib.hid hDd)
                | (go_at_call 19; (with_reducible refine (cG2.out _ hDd.out).mono ?_); rintro e we ⟨rfl, hDe⟩; replace hOq := Lib.hid (hcell.out _ hDe); replace hDe := Lib.hid hDe))
            all_goals go_wp2_with fail
            all_goals go_meet
            all_goals (try case rel => exact ⟨rfl, hDe⟩)
          case rest =>
            obtain ⟨rfl, hDf⟩ := hcut
            have hS0 : DS I w1 b b2 ln wc := DS.of hDf.out hgr.out
            replace hS0 := Lib.hid hS0
            have hdn : ln.nc = d := hdl.out.2.trans hd0.out
            have hd8 : d ≤ 8 := by have := hgr.out.ok.nc; omega
            have cNo : ∀ (W : World) (c : Int), DS I w1 b b2 ln W → Calls Try.prog 20 #[.pointer (some ⟨b, 0, none⟩), .int .i64 c] W fun e w' => e = .returned (.int .i64 (ln.nos c)) ∧ DS I w1 b b2 ln w' := fun W c h => by
              obtain ⟨PF, RF, hX, _⟩ := h.ap
              refine (I.nos c hX).mono ?_
              rintro e w' ⟨rfl, hB⟩
              exact ⟨rfl, h.below hB⟩
            replace cNo := Lib.hid cNo
            replace hdl := Lib.hid hdl
            replace hdn := Lib.hid hdn
            go_wp2_with fail
            go_loopw [15] (fun i wr => ∃ j : Nat, j ≤ d + 2 ∧ i = .int .i64 ((j : Int) - 1) ∧ Hid (DS I w1 b b2 ln wr)) (fun i _ => ((d : Int) + 1 - intOf i).toNat)
            case atStart => exact ⟨0, by omega, rfl, hS0⟩
            case round =>
              obtain ⟨j, hj, rfl, hSj⟩ := hrel
              by_cases hjd : j < d + 2
              · have jz : (j : Int) - 1 ≤ (d : Int) := by omega
                have jw : IntKind.i64.wrap ((j : Int) - 1 + 1) = (j : Int) := by rw [IntKind.wrap_i64] <;> omega
                have e9 : (j : Int) = ((j + 1 : Nat) : Int) - 1 := by omega
                have cN2 := cNo.out _ ((j : Int) - 1) hSj.out
                by_cases hin : 1 ≤ j ∧ j < d + 1
                · obtain ⟨c, rfl⟩ : ∃ c, j = c + 1 := ⟨j - 1, by omega⟩
                  have e8 : (((c + 1 : Nat) : Int) - 1) = (c : Int) := by omega
                  rw [e8] at jz jw cN2 ⊢
                  have hcd : c < d := by omega
                  have g1 : (0 : Int) ≤ (c : Int) := by omega
                  have g2 : (c : Int) < (d : Int) := by omega
                  have hnz : (c : Int) < (ln.nc : Int) := by rw [hdn.out]; exact g2
                  rw [nos_in (l := ln) (by rw [hdn.out]; exact hcd)] at cN2
                  obtain ⟨PF, RF, _, ⟨_, _, gN, cN, _, _, hY⟩, _⟩ := hSj.out.ap
                  have z1 := hY.c1
                  have z2 := hY.nos.cell (i := c) (by rw [hdn.out]; exact hcd)
                  generalize ln.N c = yv at *
                  replace hY := Lib.hid hY
                  replace cN2 := Lib.hid cN2
                  replace e9 := Lib.hid e9
                  go_wp2_with fail
                  with_reducible refine cN2.out.mono ?_
                  rintro e w7 ⟨rfl, hS7⟩
                  replace hS7 := Lib.hid hS7
                  go_wp2_with fail
                  go_roundw
                  case rel => exact ⟨c + 1 + 1, by omega, by rw [← e9.out]; go_num, hS7⟩
                  case measure => first | (simp [intOf]; omega) | simp [intOf]
                · have e0 : ln.nos ((j : Int) - 1) = 0 := by
                    unfold LM.nos
                    rw [if_neg (by rw [hdn.out]; omega)]
                  rw [e0] at cN2
                  replace e9 := Lib.hid e9
                  replace e0 := Lib.hid e0
                  by_cases hneg : j = 0
                  · subst hneg
                    have e00 : (((0 : Nat) : Int) - 1) = -1 := rfl
                    rw [e00] at jz jw cN2 ⊢
                    replace cN2 := Lib.hid cN2
                    replace e00 := Lib.hid e00
                    have g1 : ¬ (0 : Int) ≤ -1 := by omega
                    go_wp2_with fail
                    with_reducible refine cN2.out.mono ?_
                    rintro e w7 ⟨rfl, hS7⟩
                    replace hS7 := Lib.hid hS7
                    go_wp2_with fail
                    go_roundw
                    case rel => exact ⟨1, by omega, by go_num, hS7⟩
                    case measure => first | (simp [intOf]; omega) | simp [intOf]
                  · replace cN2 := Lib.hid cN2
                    have g1 : (0 : Int) ≤ (j : Int) - 1 := by omega
                    have g2 : ¬ (j : Int) - 1 < (d : Int) := by omega
                    go_wp2_with fail
                    with_reducible refine cN2.out.mono ?_
                    rintro e w7 ⟨rfl, hS7⟩
                    replace hS7 := Lib.hid hS7
                    go_wp2_with fail
                    go_roundw
                    case rel => exact ⟨j + 1, by omega, by rw [← e9.out], hS7⟩
                    case measure => first | (simp [intOf]; omega) | simp [intOf]
              · have jz : ¬ (j : Int) - 1 ≤ (d : Int) := by omega
                go_wp2_with fail
                go_roundw
                case rel => exact ⟨k + 1, by omega, by go_num, by rw [hln.out]; exact hSj⟩
                case measure => simp [intOf]; omega
      · obtain rfl : k = len := by omega
        have kz : ¬ (k : Int) < (k : Int) := by omega
        have hBf := Lib.hid (hB1.out.trans (hS.out.blw.mono hB1.out.size))
        go_wp2_with fail
        go_ret
        exact ⟨rfl, hBf.out⟩
end Go.Proofs.Ytghebijikdnikaa
