/- A greater haircut never lets a net worth be greater: the law's walk. -/
import Derived.Test.YtllhpdohahoelaaWQ
namespace Go.Proofs.Ytllhpdohahoelaa
open Go.RowKit
set_option linter.unusedVariables false

/-- the first k members' numbers -/
def netsL (x : WM) (k : Nat) : List Int := (List.range k).map fun (j : Nat) => (x.net (j : Int)).1
def shortsL (x : WM) (k : Nat) : List Int := (List.range k).map fun (j : Nat) => (x.short (j : Int)).1
theorem netsL_succ (x : WM) (k : Nat) : netsL x (k + 1) = netsL x k ++ [(x.net (k : Int)).1] := by unfold netsL; rw [List.range_succ, List.map_append]; rfl
theorem shortsL_succ (x : WM) (k : Nat) : shortsL x (k + 1) = shortsL x k ++ [(x.short (k : Int)).1] := by unfold shortsL; rw [List.range_succ, List.map_append]; rfl
theorem netsL_len (x : WM) (k : Nat) : (netsL x k).length = k := by unfold netsL; simp
theorem shortsL_len (x : WM) (k : Nat) : (shortsL x k).length = k := by unfold shortsL; simp
theorem netsL_get (x : WM) {k j : Nat} (h : j < k) : (netsL x k).getD j 0 = (x.net (j : Int)).1 := by unfold netsL; rw [List.getD_eq_getElem?_getD, List.getElem?_map, List.getElem?_range h]; rfl
theorem shortsL_get (x : WM) {k j : Nat} (h : j < k) : (shortsL x k).getD j 0 = (x.short (j : Int)).1 := by unfold shortsL; rw [List.getD_eq_getElem?_getD, List.getElem?_map, List.getElem?_range h]; rfl
theorem net_in64 (x : WM) (m : Int) : In64 (x.net m).1 := by
  unfold WM.net; split
  · exact (net_in _ _ _ _ _ ⟨by decide, by decide⟩).1
  · exact ⟨by decide, by decide⟩
theorem short_in64 (x : WM) (m : Int) : In64 (x.short m).1 := by
  unfold WM.short; split
  · exact (short_in _ _ _ _ _ ⟨by decide, by decide⟩).1
  · exact ⟨by decide, by decide⟩
/-- the law's middle way: k members' numbers are taken -/
structure CNS (w0 : World) (x : WM) (k : Nat) (q1 : Option Addr) (d1 : Nat) (q2 : Option Addr) (d2 : Nat) (wr : World) : Prop where
  own1 : OwnI w0.heap.size wr (.slice q1 k d1) (netsL x k)
  own2 : OwnI w0.heap.size wr (.slice q2 k d2) (shortsL x k)
  ap : ∀ g, (Value.slice q1 k d1).ownBlock = some g → (Value.slice q2 k d2).ownBlock ≠ some g
  err : ∀ j : Nat, j < k → (x.net (j : Int)).2 = 0 ∧ (x.short (j : Int)).2 = 0
  blw : Below w0.heap.size w0 wr

theorem CNS.step {w0 wr w1 : World} {x : WM} {k : Nat} {q1 : Option Addr} {d1 : Nat} {q2 : Option Addr} {d2 : Nat} (h : CNS w0 x k q1 d1 q2 d2 wr) (hb : Below wr.heap.size wr w1) (hk : k ≤ 16) (e1 : (x.net (k : Int)).2 = 0) (e2 : (x.short (k : Int)).2 = 0) :
    ∃ p1 c1 wa p2 c2 wb, (Builtin.append_ #[43, 43] 43 #[.slice q1 k d1, .slice (some ⟨w1.heap.size, 0, none⟩) 1 1]).run Try.prog (w1.alloc (.cells #[.int .i64 (x.net (k : Int)).1] 2)) = .ok (.slice p1 (k + 1) c1) wa ∧
      (Builtin.append_ #[43, 43] 43 #[.slice q2 k d2, .slice (some ⟨wa.heap.size, 0, none⟩) 1 1]).run Try.prog (wa.alloc (.cells #[.int .i64 (x.short (k : Int)).1] 2)) = .ok (.slice p2 (k + 1) c2) wb ∧ CNS w0 x (k + 1) p1 c1 p2 c2 wb := by
  have hs := h.blw.size
  have hs1 := hb.size
  have o1 : OwnI w0.heap.size w1 (.slice q1 k d1) (netsL x k) := h.own1.block fun g hg => hb.block g (h.own1.lt g hg).2
  have o2 : OwnI w0.heap.size w1 (.slice q2 k d2) (shortsL x k) := h.own2.block fun g hg => hb.block g (h.own2.lt g hg).2
  have o1a : OwnI w0.heap.size (w1.alloc (.cells #[.int .i64 (x.net (k : Int)).1] 2)) (.slice q1 k d1) (netsL x k) := o1.block fun g hg => Below.heap_alloc _ _ _ (o1.lt g hg).2
  have o2a : OwnI w0.heap.size (w1.alloc (.cells #[.int .i64 (x.net (k : Int)).1] 2)) (.slice q2 k d2) (shortsL x k) := o2.block fun g hg => Below.heap_alloc _ _ _ (o2.lt g hg).2
  have hx1 : (w1.alloc (.cells #[.int .i64 (x.net (k : Int)).1] 2)).cell? ((⟨w1.heap.size, 0, none⟩ : Addr).add 0) = some (.int .i64 (x.net (k : Int)).1) := obj_cell (heap_alloc_new w1 _) rfl
  obtain ⟨v1, wa, hrun1, hO1, hG1, hL1⟩ := appX_run _ w0.heap.size _ _ o1a (by simp; omega) _ _ hx1 (by rw [netsL_len]; omega)
  obtain ⟨p1, c1, ev1⟩ := hO1.shape
  rw [← netsL_succ, netsL_len] at ev1
  rw [← netsL_succ] at hO1
  have hsa : w1.heap.size + 1 ≤ wa.heap.size := by have := hG1.size; simp at this; exact this
  have o2b : OwnI w0.heap.size wa (.slice q2 k d2) (shortsL x k) := o2a.block fun g hg => hG1.block g (o2a.lt g hg).2 (fun e => h.ap g e.symm hg)
  have o1b : OwnI w0.heap.size (wa.alloc (.cells #[.int .i64 (x.short (k : Int)).1] 2)) v1 (netsL x (k + 1)) := hO1.block fun g hg => Below.heap_alloc _ _ _ (hO1.lt g hg).2
  have o2c : OwnI w0.heap.size (wa.alloc (.cells #[.int .i64 (x.short (k : Int)).1] 2)) (.slice q2 k d2) (shortsL x k) := o2b.block fun g hg => Below.heap_alloc _ _ _ (o2b.lt g hg).2
  have hx2 : (wa.alloc (.cells #[.int .i64 (x.short (k : Int)).1] 2)).cell? ((⟨wa.heap.size, 0, none⟩ : Addr).add 0) = some (.int .i64 (x.short (k : Int)).1) := obj_cell (heap_alloc_new wa _) rfl
  obtain ⟨v2, wb, hrun2, hO2, hG2, hL2⟩ := appX_run _ w0.heap.size _ _ o2c (by simp; omega) _ _ hx2 (by rw [shortsL_len]; omega)
  obtain ⟨p2, c2, ev2⟩ := hO2.shape
  rw [← shortsL_succ, shortsL_len] at ev2
  rw [← shortsL_succ] at hO2
  have hap1 : ∀ g, v1.ownBlock = some g → (Value.slice q2 k d2).ownBlock ≠ some g := fun g hg h3 => by
    rcases hL1 with hl | ⟨q, hq, hl⟩
    · rw [hl] at hg; exact h.ap g hg h3
    · rw [hl] at hg
      injection hg with hg
      subst hg
      have := (o2.lt _ h3).2
      simp at hq
      omega
  have hap2 : ∀ g, v1.ownBlock = some g → v2.ownBlock ≠ some g := fun g hg h3 => by
    rcases hL2 with hl | ⟨q, hq, hl⟩
    · rw [hl] at h3; exact hap1 g hg h3
    · rw [hl] at h3
      injection h3 with h3
      subst h3
      have := (hO1.lt _ hg).2
      simp at hq
      omega
  have hB1 : Below w0.heap.size w0 wa := ((h.blw.trans (hb.mono hs)).alloc (by omega) _).grown hG1 (by simp; omega) (fun g hg => (o1a.lt g hg).1)
  have hB2 : Below w0.heap.size w0 wb := (hB1.alloc (by omega) _).grown hG2 (by simp; omega) (fun g hg => (o2c.lt g hg).1)
  subst ev1; subst ev2
  refine ⟨p1, c1, wa, p2, c2, wb, hrun1, hrun2, ⟨o1b.block fun g hg => hG2.block g (o1b.lt g hg).2 (fun e => hap1 g hg e.symm), hO2, hap2, fun j hj => ?_, hB2⟩⟩
  by_cases e : j < k
  · exact h.err j e
  · obtain rfl : j = k := by omega
    exact ⟨e1, e2⟩
/-- the law's last way: rows of numbers, and worths -/
structure CLS (w0 : World) (lb b : Nat) (y z : WM) (M : Nat) (q1 : Option Addr) (d1 : Nat) (q2 : Option Addr) (d2 : Nat) (wr : World) : Prop where
  row1 : Seq64 wr q1 M (netsL y M)
  row2 : Seq64 wr q2 M (shortsL y M)
  wp : ∃ P, WP P wr b lb z
  blw : Below w0.heap.size w0 wr
theorem CLS.below {w0 wr w' : World} {lb b : Nat} {y z : WM} {M : Nat} {q1 : Option Addr} {d1 : Nat} {q2 : Option Addr} {d2 : Nat} (h : CLS w0 lb b y z M q1 d1 q2 d2 wr) (hb : Below wr.heap.size wr w') : CLS w0 lb b y z M q1 d1 q2 d2 w' := by
  obtain ⟨P, hP⟩ := h.wp
  exact ⟨h.row1.kept hb, h.row2.kept hb, ⟨P, hP.below hb⟩, h.blw.trans (hb.mono h.blw.size)⟩
theorem nets_mem {x : WM} {k : Nat} {v : Int} (h : v ∈ netsL x k) : In64 v := by
  unfold netsL at h
  obtain ⟨j, _, rfl⟩ := List.mem_map.1 h
  exact net_in64 _ _
theorem shorts_mem64 {x : WM} {k : Nat} {v : Int} (h : v ∈ shortsL x k) : In64 v := by
  unfold shortsL at h
  obtain ⟨j, _, rfl⟩ := List.mem_map.1 h
  exact short_in64 _ _

set_option maxHeartbeats 8000000 in
set_option maxRecDepth 100000 in
theorem worthCuts_any (p : Option Addr) (len cap : Nat) (cs : List Cur) (mb : Int) (q : Option Addr) (n c2 : Nat) (ops : List WOp) (cur low high : Int) (w : World) (hT : Tab w p len cs) (hmb : 0 ≤ mb ∧ mb ≤ 255) (ho : OpsW w q n ops) (hcur : In64 cur) (hlow : In64 low) (hhigh : In64 high) :
    Calls Try.prog 5 #[.slice p len cap, .int .u8 mb, .slice q n c2, .int .i64 cur, .int .i64 low, .int .i64 high] w fun e w' => e = .returned (.bool true) ∧ Below w.heap.size w w' := by
  have hA := Lib.hid (awake_any w)
  replace hT := Lib.hid hT
  replace ho := Lib.hid ho
  replace hcur := Lib.hid hcur
  replace hlow := Lib.hid hlow
  replace hhigh := Lib.hid hhigh
  go_enter Try.func5, Try.ntmps5
  go_upto_region 3 with (first | (go_at_call 6; (with_reducible refine hA.out.mono ?_); rintro e w1 ⟨rfl, hB1⟩))
  have hT1 := hT.out.kept hB1
  have ho1 := ho.out.kept hB1
  have cL := large_any q n c2 ops w1 ho1
  have cC := fun w (h : Below w1.heap.size w1 w) => checkR_any p len cap cs w (hT1.kept h)
  replace hB1 := Lib.hid hB1
  replace hT1 := Lib.hid hT1
  replace ho1 := Lib.hid ho1
  cases hc1 : manyO ops with
  | true =>
    rw [hc1] at cL
    replace cL := Lib.hid cL
    go_wp2_with (first | (go_at_call 7; (with_reducible refine cL.out.mono ?_); rintro e w2 ⟨rfl, rfl⟩))
    go_ret
    exact ⟨rfl, hB1.out⟩
  | false =>
  rw [hc1] at cL
  replace cL := Lib.hid cL
  by_cases hl20 : 20 < len
  · have hz : (20 : Int) < (len : Int) := by omega
    go_wp2_with (first | (go_at_call 7; (with_reducible refine cL.out.mono ?_); rintro e w2 ⟨rfl, rfl⟩))
    go_ret
    exact ⟨rfl, hB1.out⟩
  have hz : ¬ (20 : Int) < (len : Int) := by omega
  have cC1 := cC w1 (Below.refl _ _)
  clear cC
  by_cases hc : chkT cs = 0
  · rw [hc] at cC1
    replace cC1 := Lib.hid cC1
    by_cases hlh : high < low
    · go_wp2_with (first | (go_at_call 7; (with_reducible refine cL.out.mono ?_); rintro e w2 ⟨rfl, rfl⟩) | (go_at_call 11; (with_reducible refine cC1.out.mono ?_); rintro e w2 ⟨rfl, hB2⟩; replace hB2 := Lib.hid hB2))
      go_ret
      exact ⟨rfl, chain_trans hB1.out hB2.out⟩
    have hlen := hT1.out.1
    have h1 := (chk_ok hc).1
    have h8 := (chk_ok hc).2.1
    rw [hlen] at h1 h8
    have hn30 : n ≤ 30 := by have := many_len hc1; have := ho1.out.1; omega
    replace hlen := Lib.hid hlen
    replace hc := Lib.hid hc
    replace hc1 := Lib.hid hc1
    go_upto_region 6 with (first | (go_at_call 7; (with_reducible refine cL.out.mono ?_); rintro e w2 ⟨rfl, rfl⟩) | (go_at_call 11; (with_reducible refine cC1.out.mono ?_); rintro e w2 ⟨rfl, hB2⟩))
    obtain ⟨M, hM⟩ : ∃ M : Nat, mb % 16 + 1 = M := ⟨(mb % 16 + 1).toNat, by omega⟩
    have hM1 : 1 ≤ M ∧ M ≤ 16 := by omega
    rw [hM]
    have hT2 := hT1.out.kept hB2
    have ho2 := ho1.out.kept hB2
    have hok : newOk (M : Int) (len : Int) = true := newOk_iff.2 ⟨by omega, by omega, by omega, by omega⟩
    have hB02 := hB1.out.trans (hB2.mono hB1.out.size)
    have cN : Calls Try.prog 8 #[.int .i64 (M : Int), .int .i64 (len : Int)] w2 fun e w' => ∃ b, e = .returned (.tuple #[.pointer (some ⟨b, 0, none⟩), .int .i64 0]) ∧ PL (fun j => w2.heap.size ≤ j) w' b (LM.new M len) ∧ Below w2.heap.size w2 w' := by
      refine (new_any _ _ w2).mono ?_
      rintro e w' ⟨h1, _, h3⟩
      obtain ⟨b, e1, hL⟩ := h1 hok
      simp only [Int.toNat_natCast] at hL
      exact ⟨b, e1, hL, h3⟩
    have hg0 : (LM.new M len).Good := by
      obtain ⟨g1, g2⟩ := new_ok (nm := M) (nc := len) (by omega) (by omega)
      exact ⟨g1, g2⟩
    have hn0 : (LM.new M len).nm = M := rfl
    have hd0 : (LM.new M len).nc = len := rfl
    generalize LM.new M len = l0 at *
    replace cN := Lib.hid cN
    replace hok := Lib.hid hok
    replace hg0 := Lib.hid hg0
    replace hn0 := Lib.hid hn0
    replace hd0 := Lib.hid hd0
    replace hM := Lib.hid hM
    replace hT2 := Lib.hid hT2
    replace ho2 := Lib.hid ho2
    replace hB2 := Lib.hid hB2
    replace hB02 := Lib.hid hB02
    clear cL cC1
    go_upto_region 7 with (first | (go_at_call 8; (with_reducible refine cN.out.mono ?_); rintro e w3 ⟨lb, rfl, hL3, hB3⟩))
    have hT3 := hT2.out.kept hB3
    have cW : Calls Try.prog 10 #[.slice p len cap, .pointer (some ⟨lb, 0, none⟩)] w3 fun e w' => ∃ b, e = .returned (.tuple #[.pointer (some ⟨b, 0, none⟩), .int .i64 0]) ∧ KW w2 lb b M l0 (WM.new cs l0) w' ∧ Syn l0 (WM.new cs l0) := by
      refine (wnew_any w3 hT3 hL3 hg0.out).mono ?_
      rintro e w' ⟨_, _, h3, h4⟩
      obtain ⟨b, e1, hW⟩ := h3 hc.out (by rw [hd0.out]; exact hlen.out)
      exact ⟨b, e1, ⟨WSt.made hL3 hg0.out (fun j hj hp hg => by omega) (fun j hj => by have := hB3.size; omega) hW h4, ⟨rfl, by rw [hd0.out]; exact hlen.out⟩, hn0.out, hB3.trans (h4.mono hB3.size)⟩, fun j hj => rfl⟩
    replace cW := Lib.hid cW
    replace hT3 := Lib.hid hT3
    replace hL3 := Lib.hid hL3
    replace hB3 := Lib.hid hB3
    go_upto_region 11 with (first | (go_at_call 10; (with_reducible refine cW.out.mono ?_); rintro e w4 ⟨b, rfl, hK4, hY4⟩; replace hK4 := Lib.hid hK4; replace hY4 := Lib.hid hY4))
    go_loopw [80] (fun i wr => ∃ (k : Nat) (l : LM) (x : WM), k ≤ n ∧ i = .int .i64 (k : Int) ∧ Hid (KW w2 lb b M l x wr)) (fun i _ => n - (intOf i).toNat)
    case atStart => exact ⟨0, l0, _, by omega, rfl, hK4⟩
    case round =>
      obtain ⟨k, l, x, hk, rfl, hS⟩ := hrel
      by_cases hkn : k < n
      · have kz : (k : Int) < (n : Int) := by omega
        have hrow := ho2.out.kept hS.out.blw
        obtain ⟨y, hy⟩ : ∃ y, ops[k]? = some y := ⟨_, List.getElem?_eq_getElem (by have := ho2.out.1; omega)⟩
        obtain ⟨rb, off, rfl, z0, z1, z2, z3, z4⟩ := hrow.at hy
        have hyok := (hrow.2.2.1 y (List.mem_of_getElem? hy)).1
        have hyl : y.len ≤ 20 := many_one hc1.out (List.mem_of_getElem? hy)
        have hBb : Below wr.heap.size wr (wr.alloc (.cells #[.int .i64 y.Do, .int .i64 y.m, .int .i64 y.c, .int .i64 y.a, .slice y.p y.len y.cap] 40)) := (Below.refl _ _).alloc (Nat.le_refl _) _
        have hbx := heap_alloc_new wr (.cells #[.int .i64 y.Do, .int .i64 y.m, .int .i64 y.c, .int .i64 y.a, .slice y.p y.len y.cap] 40)
        have hnm := hS.out.nm
        have hD := (dow_any y _ (hS.out.below hBb).st (hyok.kept hBb) (by omega) (by omega)).mono fun e w' hd => (hS.out.below hBb).dow hd
        rw [hnm] at hD
        unfold WOp.arr at hD
        generalize opW l x y = R at *
        obtain ⟨r, l', x'⟩ := R
        dsimp only at hD
        replace hrow := Lib.hid hrow
        replace hyok := Lib.hid hyok
        replace hy := Lib.hid hy
        generalize hv : wr.alloc (.cells #[.int .i64 y.Do, .int .i64 y.m, .int .i64 y.c, .int .i64 y.a, .slice y.p y.len y.cap] 40) = v at *
        have y0 : v.cell? ⟨wr.heap.size, 0, none⟩ = some (.int .i64 y.Do) := obj_cell hbx rfl
        have y1 : v.cell? ⟨wr.heap.size, 1, none⟩ = some (.int .i64 y.m) := obj_cell hbx rfl
        have y2 : v.cell? ⟨wr.heap.size, 2, none⟩ = some (.int .i64 y.c) := obj_cell hbx rfl
        have y3 : v.cell? ⟨wr.heap.size, 3, none⟩ = some (.int .i64 y.a) := obj_cell hbx rfl
        have y4 : v.cell? ⟨wr.heap.size, 4, none⟩ = some (.slice y.p y.len y.cap) := obj_cell hbx rfl
        replace hv := Lib.hid hv
        replace hD := Lib.hid hD
        replace hBb := Lib.hid hBb
        replace hbx := Lib.hid hbx
        go_upto_region 13 with (fail)
        change Code.wp _ _ _ _ (wr.alloc (.cells #[.int .i64 y.Do, .int .i64 y.m, .int .i64 y.c, .int .i64 y.a, .slice y.p y.len y.cap] 40))
        rw [hv.out]
        go_wp2_with (first | (go_at_call 13; (with_reducible refine hD.out.mono ?_); rintro e w5 ⟨rfl, hK5⟩; replace hK5 := Lib.hid hK5))
        go_roundw
        case rel => exact ⟨k + 1, l', x', by omega, by go_num, hK5⟩
        case measure => simp [intOf]; omega
      · obtain rfl : k = n := by omega
        have kz : ¬ (k : Int) < (k : Int) := by omega
        have hnm := hS.out.nm
        have cK := hS.out.st.cutt cur low hlow.out
        obtain ⟨R, hR⟩ : ∃ R, x.cutt cur low = R := ⟨_, rfl⟩
        have hRe := cutt_err x cur low
        rw [hR] at cK hRe
        obtain ⟨r1, y⟩ := R
        dsimp only at cK hRe
        replace cK := Lib.hid cK
        replace hR := Lib.hid hR
        rcases hRe with rfl | rfl
        · go_upto_region 17 with (first | (go_at_call 25; (with_reducible refine cK.out.mono ?_); rintro e w5 ⟨rfl, hS5, hK5⟩))
          have hyn : y.nm = M := by
            obtain ⟨k', _, _, e, _⟩ := cutt_ok (x := x) (c := cur) (a := low) (by rw [hR.out])
            rw [hR.out] at e
            dsimp only at e
            rw [e]; exact hnm
          have hb5 : Below w2.heap.size w2 w5 := hS.out.blw.trans (hK5.below hS.out.blw.size fun j hj e => e hj)
          have hN0 : CNS w5 y 0 none 0 none 0 w5 := ⟨World.ownsRow_nil _ _ _ _, World.ownsRow_nil _ _ _ _, (fun g hg => by cases hg), (fun j hj => by omega), Below.refl _ _⟩
          replace hN0 := Lib.hid hN0
          replace hS5 := Lib.hid hS5
          replace hK5 := Lib.hid hK5
          replace hb5 := Lib.hid hb5
          go_upto_region 19 with (fail)
          go_loopw [20, 21, 22] (fun s1 s2 i wr => ∃ (j : Nat) (q1 : Option Addr) (d1 : Nat) (q2 : Option Addr) (d2 : Nat), j ≤ M ∧ i = .int .i64 (j : Int) ∧ s1 = .slice q1 j d1 ∧ s2 = .slice q2 j d2 ∧ Hid (CNS w5 y j q1 d1 q2 d2 wr)) (fun _ _ i _ => M - (intOf i).toNat)
          case atStart => exact ⟨0, none, 0, none, 0, by omega, rfl, rfl, rfl, hN0⟩
          case round =>
            obtain ⟨j, q1, d1, q2, d2, hj, rfl, rfl, rfl, hN⟩ := hrel
            by_cases hjm : j < M
            · have jz : (j : Int) < (M : Int) := by omega
              have hSz := Lib.hid (hS5.out.below hN.out.blw)
              have cA := fun wv (h : Below wr.heap.size wr wv) => net_any (j : Int) wv (hSz.out.two h).choose_spec
              have cB := fun wv (h : Below wr.heap.size wr wv) => short_any (j : Int) wv (hSz.out.two h).choose_spec
              have hst := fun wv (h : Below wr.heap.size wr wv) => hN.out.step h (by omega)
              have hbz := hN.out.blw.size
              generalize hNV : y.net (j : Int) = NV at *
              generalize hSV : y.short (j : Int) = SV at *
              obtain ⟨n1, n2⟩ := NV
              obtain ⟨s1, s2⟩ := SV
              dsimp only at cA cB hst
              replace cA := Lib.hid cA
              replace cB := Lib.hid cB
              replace hst := Lib.hid hst
              replace hNV := Lib.hid hNV
              replace hSV := Lib.hid hSV
              go_wp2_with fail
              with_reducible refine (cA.out _ (Below.refl _ _)).mono ?_
              rintro e v1 ⟨rfl, hb1⟩
              replace hb1 := Lib.hid hb1
              go_wp2_with fail
              with_reducible refine (cB.out _ hb1.out).mono ?_
              rintro e v2 ⟨rfl, hb2⟩
              have hb3 := hb1.out.trans (hb2.mono hb1.out.size)
              have hB4 := hb5.out.trans ((hN.out.blw.trans (hb3.mono hbz)).mono hb5.out.size)
              replace hb2 := Lib.hid hb2
              replace hb3 := Lib.hid hb3
              replace hB4 := Lib.hid hB4
              by_cases hn2 : n2 = 0
              · subst hn2
                by_cases hs2 : s2 = 0
                · subst hs2
                  obtain ⟨p1, c1, wa, p2, c2', wb, hr1, hr2, hN2⟩ := hst.out _ hb3.out rfl rfl
                  replace hr1 := Lib.hid hr1
                  replace hr2 := Lib.hid hr2
                  replace hN2 := Lib.hid hN2
                  clear hst
                  go_wp2_with (at_builtin; first | refine wpList_apx rfl _ _ _ _ rfl _ _ _ _ rfl rfl hr1.out ?_ | refine wpList_apx rfl _ _ _ _ rfl _ _ _ _ rfl rfl hr2.out ?_)
                  go_roundw
                  case rel => exact ⟨j + 1, _, _, _, _, by omega, by go_num, rfl, rfl, hN2⟩
                  case measure => simp [intOf]; omega
                · have hs3 : (s2 != 0) = true := by simpa using hs2
                  clear hst
                  go_wp2_with fail
                  go_ret
                  exact ⟨rfl, hB02.out.trans (hB4.out.mono hB02.out.size)⟩
              · have hn3 : (n2 != 0) = true := by simpa using hn2
                clear hst
                go_wp2_with fail
                go_ret
                exact ⟨rfl, hB02.out.trans (hB4.out.mono hB02.out.size)⟩
            · obtain rfl : j = M := by omega
              have jz : ¬ (j : Int) < (j : Int) := by omega
              have hbz := hN.out.blw.size
              have hSz : WSt (fun i => i < w2.heap.size ∨ (w5.heap.size ≤ i ∧ i < wr.heap.size)) lb b l y wr := hS5.out.more hN.out.blw (fun i hi hg => by rcases hg with hg | hg; exact hg; omega) (fun i hg => by
                rcases hg with hg | hg
                · have := hb5.out.size; omega
                · exact hg.2)
              have cK2 := hSz.cutt cur high hhigh.out
              obtain ⟨R2, hR2⟩ : ∃ R, y.cutt cur high = R := ⟨_, rfl⟩
              have hRe2 := cutt_err y cur high
              rw [hR2] at cK2 hRe2
              obtain ⟨r2, z⟩ := R2
              dsimp only at cK2 hRe2
              replace cK2 := Lib.hid cK2
              have hBz := hb5.out.trans (hN.out.blw.mono hb5.out.size)
              replace hSz := Lib.hid hSz
              replace hBz := Lib.hid hBz
              rcases hRe2 with rfl | rfl
              · have hcf := fun i (hi : i < x.nm) => cuts_fact hR.out hR2 (show low ≤ high by omega) hi
                replace hcf := Lib.hid hcf
                replace hR2 := Lib.hid hR2
                go_upto_region 28 with (first | (go_at_call 25; (with_reducible refine cK2.out.mono ?_); rintro e w6 ⟨rfl, hS6, hK6⟩))
                have own1 : OwnI w5.heap.size w6 (.slice q1 j d1) (netsL y j) := hN.out.own1.block fun g hg => hK6.block g (hN.out.own1.lt g hg).2 (fun e => e (.inr (hN.out.own1.lt g hg)))
                have own2 : OwnI w5.heap.size w6 (.slice q2 j d2) (shortsL y j) := hN.out.own2.block fun g hg => hK6.block g (hN.out.own2.lt g hg).2 (fun e => e (.inr (hN.out.own2.lt g hg)))
                have hB6 : Below w2.heap.size w2 w6 := hBz.out.trans (hK6.below hBz.out.size fun i hi e => e (.inl hi))
                have hC0 : CLS w2 lb b y z j q1 d1 q2 d2 w6 := ⟨ownI_seq own1 (netsL_len y j) (fun v hv => nets_mem hv) (by omega), ownI_seq own2 (shortsL_len y j) (fun v hv => shorts_mem64 hv) (by omega), hS6.wp, hB6⟩
                replace hC0 := Lib.hid hC0
                replace own1 := Lib.hid own1
                replace own2 := Lib.hid own2
                replace hB6 := Lib.hid hB6
                replace hS6 := Lib.hid hS6
                replace hK6 := Lib.hid hK6
                go_upto_region 29 with (fail)
                go_loopw [27] (fun i wv => ∃ m : Nat, m ≤ j ∧ i = .int .i64 (m : Int) ∧ Hid (CLS w2 lb b y z j q1 d1 q2 d2 wv)) (fun i _ => j - (intOf i).toNat)
                case atStart => exact ⟨0, by omega, rfl, hC0⟩
                case round =>
                  obtain ⟨m, hm, rfl, hC⟩ := hrel
                  by_cases hmj : m < j
                  · have mz : (m : Int) < (j : Int) := by omega
                    obtain ⟨f1, f2, f3⟩ := hcf.out m (by omega)
                    obtain ⟨y1, y2⟩ := hN.out.err m hmj
                    have cA := fun wv' (h : CLS w2 lb b y z j q1 d1 q2 d2 wv') => net_any (m : Int) wv' h.wp.choose_spec
                    have cB := fun wv' (h : CLS w2 lb b y z j q1 d1 q2 d2 wv') => short_any (m : Int) wv' h.wp.choose_spec
                    have g1 := netsL_get y hmj
                    have g2 := shortsL_get y hmj
                    rw [f1] at cB
                    generalize y.net (m : Int) = NV at *
                    generalize y.short (m : Int) = SV at *
                    generalize z.net (m : Int) = ZV at *
                    obtain ⟨n1, n2⟩ := NV
                    obtain ⟨s1, s2⟩ := SV
                    obtain ⟨z1, z2⟩ := ZV
                    dsimp only at cA cB f2 f3 y1 y2 g1 g2
                    subst y1; subst y2
                    replace f2 := f2 rfl
                    replace cA := Lib.hid cA
                    replace cB := Lib.hid cB
                    replace g1 := Lib.hid g1
                    replace g2 := Lib.hid g2
                    clear f1
                    go_wp2_with fail
                    with_reducible refine (cA.out _ hC.out).mono ?_
                    rintro e v1 ⟨rfl, hb1⟩
                    have hC1 := Lib.hid (hC.out.below hb1)
                    replace hb1 := Lib.hid hb1
                    go_wp2_with fail
                    with_reducible refine (cB.out _ hC1.out).mono ?_
                    rintro e v2 ⟨rfl, hb2⟩
                    have hC2 := Lib.hid (hC1.out.below hb2)
                    replace hb2 := Lib.hid hb2
                    obtain ⟨_, _, _, hr1⟩ := hC2.out.row1
                    obtain ⟨_, _, _, hr2⟩ := hC2.out.row2
                    obtain ⟨rb1, of1, rfl, _, hr1⟩ := hr1.resolve_left (by omega)
                    obtain ⟨rb2, of2, rfl, _, hr2⟩ := hr2.resolve_left (by omega)
                    have x1 := hr1 m hmj
                    have x2 := hr2 m hmj
                    rw [g1.out] at x1
                    rw [g2.out] at x2
                    replace hr1 := Lib.hid hr1
                    replace hr2 := Lib.hid hr2
                    by_cases hz2 : z2 = 0
                    · subst hz2
                      have h4 := f2 rfl
                      have h5 : ¬ n1 < z1 := by omega
                      have h6 : ¬ s1 < 0 := by omega
                      clear f2
                      go_wp2_with fail
                      go_roundw
                      case rel => exact ⟨m + 1, by omega, by go_num, hC2⟩
                      case measure => simp [intOf]; omega
                    · have h5 : (z2 == 0) = false := by simpa using hz2
                      have h6 : ¬ s1 < 0 := by omega
                      clear f2
                      go_wp2_with fail
                      go_roundw
                      case rel => exact ⟨m + 1, by omega, by go_num, hC2⟩
                      case measure => simp [intOf]; omega
                  · obtain rfl : m = j := by omega
                    have mz : ¬ (m : Int) < (m : Int) := by omega
                    go_wp2_with fail
                    go_ret
                    exact ⟨rfl, hB02.out.trans (hC.out.blw.mono hB02.out.size)⟩
              · go_wp2_with (first | (go_at_call 25; (with_reducible refine cK2.out.mono ?_); rintro e w6 ⟨rfl, hS6, hK6⟩; have hb6 := Lib.hid (hBz.out.trans (hK6.below hBz.out.size fun i hi e => e (.inl hi))); replace hS6 := Lib.hid hS6; replace hK6 := Lib.hid hK6))
                go_ret
                exact ⟨rfl, hB02.out.trans (hb6.out.mono hB02.out.size)⟩
        · go_wp2_with (first | (go_at_call 25; (with_reducible refine cK.out.mono ?_); rintro e w5 ⟨rfl, hS5, hK5⟩; have hb5 := Lib.hid (hS.out.blw.trans (hK5.below hS.out.blw.size fun j hj e => e hj)); replace hS5 := Lib.hid hS5; replace hK5 := Lib.hid hK5))
          go_ret
          exact ⟨rfl, hB02.out.trans (hb5.out.mono hB02.out.size)⟩
  · obtain ⟨g, hg⟩ : ∃ g, chkT cs = g := ⟨_, rfl⟩
    rw [hg] at cC1 hc
    have hgz : (g != 0) = true := by simpa using hc
    replace cC1 := Lib.hid cC1
    replace hc := Lib.hid hc
    go_wp2_with (first | (go_at_call 7; (with_reducible refine cL.out.mono ?_); rintro e w2 ⟨rfl, rfl⟩) | (go_at_call 11; (with_reducible refine cC1.out.mono ?_); rintro e w2 ⟨rfl, hB2⟩; replace hB2 := Lib.hid hB2))
    go_ret
    exact ⟨rfl, chain_trans hB1.out hB2.out⟩
end Go.Proofs.Ytllhpdohahoelaa
