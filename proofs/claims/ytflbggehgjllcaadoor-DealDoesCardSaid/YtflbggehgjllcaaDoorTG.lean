/- The law's do, whatever the operation; DealDoes' walk. -/
import Derived.Test.YtflbggehgjllcaaDoorTB
import Derived.Test.YtflbggehgjllcaaDoorTC
import Derived.Test.YtflbggehgjllcaaDoorTD
import Derived.Test.YtflbggehgjllcaaDoorTE
import Derived.Test.YtflbggehgjllcaaDoorRQ
namespace Go.Proofs.YtflbggehgjllcaaDoor
open Go.RowKit
set_option linter.unusedVariables false
section
variable {G G' : Nat → Prop} {gb rb : Nat} {b : Bk} {w : World}
theorem do_any (h : BB G gb b rb b w) (x : XOp) (hx : x.In) : Calls Tryd.prog 10 #[.pointer (some ⟨gb, 0, none⟩), .pointer (some ⟨rb, 0, none⟩), .agg x.arr] w fun e w' => e = .returned (.bool true) ∧ BB G gb (b.op x) rb (b.op x) w' ∧ Kp (fun j => ¬ G j) w w' := by
  by_cases e0 : x.Do = 0
  · exact do_0 h x hx e0
  by_cases e1 : x.Do = 1
  · exact do_1 h x hx e1
  by_cases e2 : x.Do = 2
  · exact do_2 h x hx e2
  by_cases e3 : x.Do = 3
  · exact do_3 h x hx e3
  rcases ha : atL b.l x.id with _ | i
  · exact do_4 h x hx ⟨e0, e1, e2, e3⟩ ha
  · exact do_5 h x i hx ⟨e0, e1, e2, e3⟩ ha
theorem BB.ptext (h : BB G gb b rb b w) (hZ : SZ w) : Calls Tryd.prog 11 #[.pointer (some ⟨gb, 0, none⟩)] w fun e w' => e = .returned (.string ⟨b.text.toArray⟩) ∧ Below w.heap.size w w' :=
  text_any h.pbk.choose_spec (by have := h.okb.len; omega) hZ
theorem BB.rtext (h : BB G gb b rb b w) : Calls Tryd.prog 12 #[.pointer (some ⟨rb, 0, none⟩)] w fun e w' => e = .returned (.string ⟨b.text.toArray⟩) ∧ Below w.heap.size w w' :=
  rtext_any h.rbk.choose_spec (by have := h.okb.len; omega) fun e he => ⟨(h.okb.may e he).2.2.2.1, En.may_ask (h.okb.may e he).2.2.1⟩
theorem BB.pall (h : BB G gb b rb b w) (st : Int) : Calls Tryd.prog 14 #[.pointer (some ⟨gb, 0, none⟩), .int .i64 st] w fun e w' => ∃ u, e = .returned u ∧ ZR w w' u (b.all st) :=
  all_any h.pbk.choose_spec st (by have := h.okb.len; omega) fun e => by subst e; exact h.okb.nodup2
theorem BB.rall (h : BB G gb b rb b w) (st : Int) : Calls Tryd.prog 15 #[.pointer (some ⟨rb, 0, none⟩), .int .i64 st] w fun e w' => ∃ u, e = .returned u ∧ ZR w w' u (b.all st) :=
  rall_any h.rbk.choose_spec h.okc st
theorem all_short {b : Bk} (h : b.Ok) (st : Int) : (b.all st).length ≤ 1000000 := by
  have := h.len
  unfold Bk.all
  dsimp only
  rw [List.length_map]
  split
  · unfold lowest
    rw [List.length_mergeSort]
    exact Nat.le_trans (List.length_filter_le _ _) (by omega)
  · exact Nat.le_trans (List.length_filter_le _ _) (by omega)
theorem same_all (u v : Value) (zs : List Int) (W : World) (hu : IRow W u zs) (hv : IRow W v zs) (hl : zs.length ≤ 1000000) : Calls Tryd.prog 13 #[u, v] W fun e w' => e = .returned (.bool true) ∧ Below W.heap.size W w' :=
  (same_any u v _ _ W hu hv hl hl).mono fun e w' ⟨q1, n, q2⟩ => ⟨by rw [q1]; simp, by rw [q2]; exact ⟨rfl, rfl, rfl, Nat.le_refl _, fun _ _ => rfl⟩⟩
/-- both, made -/
theorem BB.made {N : Nat} {w2 w3 : World} (hP : PB (fun j => ¬ j < N) w2 gb b) (hR : RB (fun j => ¬ j < w2.heap.size) w3 rb b) (hb : Below w2.heap.size w2 w3) (hN : N ≤ w2.heap.size) (ho : b.Ok) : BB (fun j => j < N) gb b rb b w3 := by
  have hs := hb.size
  refine ⟨⟨fun j => N ≤ j ∧ j < w2.heap.size, fun j => w2.heap.size ≤ j ∧ j < w3.heap.size, below_pb ((PB.live gb b).weak hP fun j hj hn => ⟨by omega, hj⟩) hb, (RB.live rb b).weak hR fun j hj hn => ⟨by omega, hj⟩, fun j hj => ⟨fun h => ?_, fun h => ?_, ?_⟩, fun j hj => ⟨fun h => ?_, hj.2⟩⟩, fun j hj => ?_, ho, ho⟩ <;> omega
end
set_option maxHeartbeats 8000000 in
set_option maxRecDepth 100000 in
theorem does_any (mem cur : Int) (p : Option Addr) (len cap : Nat) (ops : List XOp) (w : World) (hO : OpsX w p len ops) (hZ : SZ w) : Calls Tryd.prog 3 #[.int .i64 mem, .int .i64 cur, .slice p len cap] w fun e w' => e = .returned (.bool true) ∧ Below w.heap.size w w' := by
  have cw := awake_any w hZ
  rcases hnew : newR mem cur with _ | _
  · have cN := fun W => new_no mem cur W hnew
    have cR := fun W => rnew_no mem cur W hnew
    replace hO := Lib.hid hO
    replace hZ := Lib.hid hZ
    replace cw := Lib.hid cw
    replace cN := Lib.hid cN
    replace cR := Lib.hid cR
    replace hnew := Lib.hid hnew
    go_enter Tryd.func3, Tryd.ntmps3
    go_wp2_with (first | (go_at_call 7; (with_reducible refine cw.out.mono ?_); rintro e w1 ⟨rfl, hb1⟩; replace hb1 := Lib.hid hb1) | (go_at_call 8; (with_reducible refine (cN.out _).mono ?_); rintro e w2 ⟨rfl, rfl⟩) | (go_at_call 9; (with_reducible refine (cR.out _).mono ?_); rintro e w2 ⟨rfl, rfl⟩))
    go_loopw [11] (fun i wr => i = .int .i64 0 ∧ wr = w1) (fun i _ => 0)
    case atStart => exact ⟨rfl, rfl⟩
    case round =>
      obtain ⟨rfl, rfl⟩ := hrel
      go_wp2_with fail
      go_ret
      exact ⟨rfl, hb1.out⟩
  · have cN := fun W => new_yes (fun j => ¬ j < W.heap.size) mem cur W hnew (fun i hi => by omega)
    have cR := fun W => rnew_yes (fun j => ¬ j < W.heap.size) mem cur W hnew (fun i hi => by omega)
    have hok : (⟨mem, cur, [], 0⟩ : Bk).Ok := by
      unfold newR at hnew
      have h' := of_decide_eq_true hnew
      exact new_ok ⟨h'.1, h'.2.1⟩ ⟨h'.2.2.1, h'.2.2.2⟩
    replace hok := Lib.hid hok
    replace hO := Lib.hid hO
    replace hZ := Lib.hid hZ
    replace cw := Lib.hid cw
    replace cN := Lib.hid cN
    replace cR := Lib.hid cR
    replace hnew := Lib.hid hnew
    go_enter Tryd.func3, Tryd.ntmps3
    go_wp2_with (first | (go_at_call 7; (with_reducible refine cw.out.mono ?_); rintro e w1 ⟨rfl, hb1⟩; replace hb1 := Lib.hid hb1) | (go_at_call 8; (with_reducible refine (cN.out _).mono ?_); rintro e w2 ⟨gb, rfl, hB2, hb2, hgb⟩; replace hB2 := Lib.hid hB2; replace hb2 := Lib.hid hb2; replace hgb := Lib.hid hgb) | (go_at_call 9; (with_reducible refine (cR.out _).mono ?_); rintro e w3 ⟨rb, rfl, hR3, hb3, hrb⟩; replace hR3 := Lib.hid hR3; replace hb3 := Lib.hid hb3; replace hrb := Lib.hid hrb))
    have hS0 := Lib.hid (BB.made hB2.out hR3.out hb3.out hb2.out.size hok.out)
    have hBl0 := Lib.hid (hb2.out.trans (hb3.out.mono hb2.out.size))
    go_loopw [11] (fun i wr => ∃ (k : Nat) (b : Bk), k ≤ len ∧ k ≤ 60 ∧ i = .int .i64 (k : Int) ∧ Hid (BB (fun j => j < w1.heap.size) gb b rb b wr) ∧ Hid (Below w1.heap.size w1 wr)) (fun i _ => 60 - (intOf i).toNat)
    case atStart => exact ⟨0, _, by omega, by omega, rfl, hS0, hBl0⟩
    case round =>
      obtain ⟨k, b, hk, hk6, rfl, hS, hBl⟩ := hrel
      have hBw := hb1.out.trans (hBl.out.mono hb1.out.size)
      by_cases hkl : k < len
      · have hkz : (k : Int) < (len : Int) := by omega
        by_cases hk60 : k < 60
        · have hk6z : (k : Int) < 60 := by omega
          obtain ⟨x, hx⟩ : ∃ x, ops[k]? = some x := ⟨_, List.getElem?_eq_getElem (by rw [hO.out.1]; exact hkl)⟩
          have hxin : x.In := hO.out.2.2.1 x (List.mem_of_getElem? hx)
          obtain ⟨ob, off, rfl, q0, q1, q2, q3, q4, q5, q6, q7, q8, q9⟩ := (hO.out.kept hBw).at hx
          have hkz0 : (0 : Int) ≤ (k : Int) := by omega
          have cD := do_any hS.out x hxin
          have hZr := hZ.out.below hBw
          have hstep : ∀ W, Kp (fun j => ¬ j < w1.heap.size) wr W → Below w1.heap.size w1 W := fun W hK => hBl.out.trans (hK.below hBl.out.size fun j hj hn => hn hj)
          have cTp := fun W (h : BB (fun j => j < w1.heap.size) gb (b.op x) rb (b.op x) W) (hz : SZ W) => h.ptext hz
          have cTr := fun W (h : BB (fun j => j < w1.heap.size) gb (b.op x) rb (b.op x) W) => h.rtext
          have hZZ : ∀ W, Below w1.heap.size w1 W → SZ W := fun W hW => hZ.out.below (hb1.out.trans (hW.mono hb1.out.size))
          unfold XOp.arr at cD
          generalize b.op x = b1 at *
          obtain ⟨T, hT⟩ : ∃ T : ByteArray, T = ⟨b1.text.toArray⟩ := ⟨_, rfl⟩
          rw [← hT] at cTp cTr
          replace hT := Lib.hid hT
          replace cD := Lib.hid cD
          replace cTp := Lib.hid cTp
          replace cTr := Lib.hid cTr
          replace hZZ := Lib.hid hZZ
          replace hZr := Lib.hid hZr
          replace hstep := Lib.hid hstep
          replace hxin := Lib.hid hxin
          replace hBw := Lib.hid hBw
          replace hx := Lib.hid hx
          go_wp2_with (first | (go_at_call 10; (with_reducible refine cD.out.mono ?_); rintro e W2 ⟨rfl, hS2, hK2⟩; have hBl2 := Lib.hid (hstep.out _ hK2); replace hS2 := Lib.hid hS2; clear hK2) | (go_at_call 11; (with_reducible refine (cTp.out _ hS2.out (hZZ.out _ hBl2.out)).mono ?_); rintro e W3 ⟨rfl, hb4⟩; have hS3 := Lib.hid (hS2.out.below hb4); have hBl3 := Lib.hid (hBl2.out.trans (hb4.mono hBl2.out.size)); clear hb4) | (go_at_call 12; (with_reducible refine (cTr.out _ hS3.out).mono ?_); rintro e W4 ⟨rfl, hb5⟩; have hS4 := Lib.hid (hS3.out.below hb5); have hBl4 := Lib.hid (hBl3.out.trans (hb5.mono hBl3.out.size)); clear hb5))
          go_loopw [12] (fun s wz => ∃ z : Nat, z ≤ 7 ∧ s = .int .i64 ((z : Int) - 1) ∧ Hid (BB (fun j => j < w1.heap.size) gb b1 rb b1 wz) ∧ Hid (Below w1.heap.size w1 wz)) (fun s _ => (6 - intOf s).toNat)
          case atStart => exact ⟨0, by omega, rfl, hS4, hBl4⟩
          case round =>
            obtain ⟨z, hz, rfl, hS5, hBl5⟩ := hrel
            have hz0 : ((z : Int) - 1) + 1 = (z : Int) := by omega
            by_cases hz7 : z < 7
            · have hzz : (z : Int) - 1 ≤ 5 := by omega
              have hzl : (-1 : Int) ≤ (z : Int) - 1 := by omega
              have cA := hS5.out.pall ((z : Int) - 1)
              have cB := fun W (h : BB (fun j => j < w1.heap.size) gb b1 rb b1 W) => h.rall ((z : Int) - 1)
              have cS := fun W u v hu hv => same_all u v (b1.all ((z : Int) - 1)) W hu hv (all_short hS5.out.okb _)
              generalize b1.all ((z : Int) - 1) = zs at *
              generalize hq : (z : Int) - 1 = q at *
              have hq1 : (z : Int) = q + 1 := by omega
              replace hq := Lib.hid hq
              replace hq1 := Lib.hid hq1
              replace cA := Lib.hid cA
              replace cB := Lib.hid cB
              replace cS := Lib.hid cS
              clear hz0
              go_wp2_with (first | (go_at_call 14; (with_reducible refine cA.out.mono ?_); rintro e W6 ⟨u, rfl, hu⟩; have hS6 := Lib.hid (hS5.out.below hu.bl); have hBl6 := Lib.hid (hBl5.out.trans (hu.bl.mono hBl5.out.size)); replace hu := Lib.hid hu.row) | (go_at_call 15; (with_reducible refine (cB.out _ hS6.out).mono ?_); rintro e W7 ⟨v, rfl, hv⟩; have hS7 := Lib.hid (hS6.out.below hv.bl); have hBl7 := Lib.hid (hBl6.out.trans (hv.bl.mono hBl6.out.size)); have hu7 : Hid (IRow W7 u zs) := Lib.hid (orow_kp hu.out (Kp.of_below (F := fun _ => False) hv.bl) (fun _ _ h => h)); replace hv := Lib.hid hv.row) | (go_at_call 13; (with_reducible refine (cS.out _ _ _ hu7.out hv.out).mono ?_); rintro e W8 ⟨rfl, hb8⟩; have hS8 := Lib.hid (hS7.out.below hb8); have hBl8 := Lib.hid (hBl7.out.trans (hb8.mono hBl7.out.size)); clear hb8))
              go_roundw
              case rel => exact ⟨z + 1, by omega, by have := hq1.out; go_num, hS8, hBl8⟩
              case measure => simp [intOf]; omega
            · have hzz : ¬ (z : Int) - 1 ≤ 5 := by omega
              go_wp2_with fail
              go_roundw
              case rel => exact ⟨k + 1, b1, by omega, by omega, by go_num, hS5, hBl5⟩
              case measure => simp [intOf]; omega
        · have hk6z : ¬ (k : Int) < 60 := by omega
          go_wp2_with fail
          go_ret
          exact ⟨rfl, hBw⟩
      · have hkz : ¬ (k : Int) < (len : Int) := by omega
        go_wp2_with fail
        go_ret
        exact ⟨rfl, hBw⟩
end Go.Proofs.YtflbggehgjllcaaDoor
