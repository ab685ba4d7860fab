/- The contract of the reference's Crash. -/
import Derived.Test.YtidofjjghbhaaaaH3
namespace Go.Proofs.Ytidofjjghbhaaaa
open Go.RowKit
set_option linter.unusedVariables false

/-- what the reference's Crash's loop holds -/
structure CrR (b : Nat) (m : DM) (xs : Nat → Int) (x : Nat) (w wr : World) (k : Nat) : Prop where
  disk : IsR wr b (m.loseTo xs k)
  kept : ∀ i, i < 4 → wr.cell? ⟨x, i, none⟩ = some (.int .i64 (xs i))
  kp : Kp (· = b) w wr

set_option maxHeartbeats 2000000 in
set_option maxRecDepth 100000 in
theorem crashR_any (b : Nat) (m : DM) (xs : Nat → Int) (w : World) (h : IsR w b m) (ok : m.Ok) (hx : ∀ k, xs k ≤ 9223372036854775807) :
    Calls Try.prog 20 #[.pointer (some ⟨b, 0, none⟩), .agg #[.int .i64 (xs 0), .int .i64 (xs 1), .int .i64 (xs 2), .int .i64 (xs 3)]] w fun e w' => e = .returned (.tuple #[]) ∧ IsR w' b (m.crash (xs 0) (xs 1) (xs 2) (xs 3)) ∧ Kp (· = b) w w' := by
  have hb := obj_lt h
  have hA : CrR b m xs w.heap.size w (w.alloc (.cells #[.int .i64 (xs 0), .int .i64 (xs 1), .int .i64 (xs 2), .int .i64 (xs 3)] 42)) 0 := by
    refine ⟨h.kept (F := fun _ => False) ((Kp.refl _ w).alloc _) (fun h => h), fun i hi => ?_, (Kp.refl _ w).alloc _⟩
    obtain rfl | rfl | rfl | rfl : i = 0 ∨ i = 1 ∨ i = 2 ∨ i = 3 := by omega
    all_goals exact cell_later2 rfl
  replace hA := Lib.hid hA
  replace h := Lib.hid h
  replace hx := Lib.hid hx
  go_enter Try.func20, Try.ntmps20
  go_wp2_with fail
  generalize w.alloc (.cells #[.int .i64 (xs 0), .int .i64 (xs 1), .int .i64 (xs 2), .int .i64 (xs 3)] 42) = wa at *
  go_loopw [4] (fun i wr => ∃ k : Nat, k ≤ 4 ∧ i = .int .i64 k ∧ Hid (CrR b m xs w.heap.size w wr k)) (fun i _ => 4 - (intOf i).toNat)
  case atStart => exact ⟨0, by omega, rfl, hA⟩
  case round =>
    obtain ⟨k, hk, rfl, hC⟩ := hrel
    by_cases hlt : k < 4
    · have hkz : (k : Int) < 4 := by omega
      have okk := ok.loseTo xs k (by omega)
      have c0 := hC.out.disk.text hlt
      have cS := hC.out.disk.sure hlt
      have ck := hC.out.kept k hlt
      have z := obj_free hC.out.disk
      have hS := okk.sure k hlt
      have hsm := okk.small hlt
      have hsz : (⟨((m.loseTo xs k).B k).toArray⟩ : ByteArray).size = ((m.loseTo xs k).B k).length := by rw [sz, bl_mk]
      have htk := sv_take ((m.loseTo xs k).B k)
      have hl : (m.loseTo xs k).left k (xs k) = if xs k < (((m.loseTo xs k).B k).length : Int) - ((m.loseTo xs k).S k : Int) then (m.loseTo xs k).S k + (max (xs k) 0).toNat else ((m.loseTo xs k).B k).length := by
        unfold DM.left
        split <;> omega
      have hfin : ∀ wq, IsR wq b (m.loseTo xs k) → IsR ((wq.setCell ⟨b, k, none⟩ (sv (((m.loseTo xs k).B k).take ((m.loseTo xs k).left k (xs k))))).setCell ⟨b, 4 + k, none⟩ (.int .i64 ((m.loseTo xs k).left k (xs k) : Nat))) b (m.loseTo xs (k + 1)) :=
        fun wq hq => (hq.setB hlt _).setS hlt _
      unfold sv at c0
      rw [← hsz] at hl hS hsm
      have hxk := hx.out k
      generalize hmk : m.loseTo xs k = mk at *
      generalize hxx : xs k = x at *
      generalize mk.left k x = left at *
      generalize mk.S k = S at *
      generalize (⟨(mk.B k).toArray⟩ : ByteArray) = t at *
      have hw1 : IntKind.i64.wrap ((t.size : Int) - (S : Int)) = (t.size : Int) - (S : Int) := by rw [IntKind.wrap_i64]; omega
      by_cases hc : x < (t.size : Int) - (S : Int)
      · rw [if_pos hc] at hl
        have hd : decide (x < (t.size : Int) - (S : Int)) = true := decide_eq_true hc
        have hmx := fun w => max2_run x 0 w
        obtain ⟨q, hq⟩ : ∃ q : Nat, max x 0 = (q : Int) := ⟨(max x 0).toNat, by omega⟩
        rw [hq] at hmx hl
        rw [Int.toNat_natCast] at hl
        have hqt : S + q ≤ t.size := by omega
        have hqz : ((S + q : Nat) : Int) ≤ (t.size : Int) := by omega
        rw [← hl] at hqt hqz
        have hm2 : (S : Int) + (q : Int) = (left : Int) := by omega
        have hw2 : IntKind.i64.wrap (left : Int) = (left : Int) := by rw [IntKind.wrap_i64]; omega
        replace hl := Lib.hid hl
        replace hq := Lib.hid hq
        replace hfin := Lib.hid hfin
        replace htk := Lib.hid htk
        replace hsz := Lib.hid hsz
        replace hmk := Lib.hid hmk
        replace hxx := Lib.hid hxx
        go_upto_region 5 with (fail)
        go_quiet (fail)
        generalize nq = n1 at *
        go_upto_region 6 with (fail)
        go_quiet (fail)
        go_upto_region 7 with (fail)
        have hC7 : CrR b m xs w.heap.size w ((wr.drewN n1).drewN nq) k := ⟨hC.out.disk, hC.out.kept, (hC.out.kp.drewN n1).drewN nq⟩
        have k0 : ((wr.drewN n1).drewN nq).cell? ⟨b, k, none⟩ = some (.string t) := c0
        have k4 : ∀ u, (((wr.drewN n1).drewN nq).setCell ⟨b, k, none⟩ u).drew.cell? ⟨b, 4 + k, none⟩ = some (.int .i64 (S : Nat)) := fun u => by
          rw [World.cell?_drew, World.cell?_setCell_other _ _ _ _ (by simp)]; exact cS
        have kz : ∀ i, ((wr.drewN n1).drewN nq).frozen? ⟨b, i, none⟩ = false := z
        replace hC7 := Lib.hid hC7
        generalize ((wr.drewN n1).drewN nq) = W7 at *
        clear c0 cS ck z
        have hN : Hid (CrR b m xs w.heap.size w ((W7.setCell ⟨b, k, none⟩ (.string (t.extract 0 (left)))).drew.setCell ⟨b, 4 + k, none⟩ (.int .i64 (left : Nat))) (k + 1)) := by
          have hd7 := hC7.out.disk
          rw [hmk.out] at hd7
          refine Lib.hid ⟨?_, fun i hi => ?_, ((hC7.out.kp.trans kp_set).drew.trans kp_set)⟩
          · rw [htk.out (left)]; exact hfin.out W7.drew hd7
          · rw [World.cell?_setCell_other _ _ _ _ (fun e => by have := congrArg Addr.block e; simp at this; omega), World.cell?_drew, World.cell?_setCell_other _ _ _ _ (fun e => by have := congrArg Addr.block e; simp at this; omega)]
            exact hC7.out.kept i hi
        go_still_tail 13, (by kernel_rfl)
        change wpList _ _ _ _ _ (World.drew _)
        go_wp2_with fail
        go_roundw
        case rel => exact ⟨k + 1, by omega, by go_num, hN⟩
        case measure => simp [intOf]; omega
      · rw [if_neg hc] at hl
        have hd : decide (x < (t.size : Int) - (S : Int)) = false := decide_eq_false hc
        subst hl
        replace hfin := Lib.hid hfin
        replace htk := Lib.hid htk
        replace hsz := Lib.hid hsz
        replace hmk := Lib.hid hmk
        replace hxx := Lib.hid hxx
        go_upto_region 5 with (fail)
        go_quiet (fail)
        go_upto_region 7 with (fail)
        have hC7 : CrR b m xs w.heap.size w (wr.drewN nq) k := ⟨hC.out.disk, hC.out.kept, hC.out.kp.drewN nq⟩
        have k0 : (wr.drewN nq).cell? ⟨b, k, none⟩ = some (.string t) := c0
        have k4 : ∀ u, ((wr.drewN nq).setCell ⟨b, k, none⟩ u).drew.cell? ⟨b, 4 + k, none⟩ = some (.int .i64 (S : Nat)) := fun u => by
          rw [World.cell?_drew, World.cell?_setCell_other _ _ _ _ (by simp)]; exact cS
        have kz : ∀ i, (wr.drewN nq).frozen? ⟨b, i, none⟩ = false := z
        replace hC7 := Lib.hid hC7
        generalize (wr.drewN nq) = W7 at *
        clear c0 cS ck z
        have hN : Hid (CrR b m xs w.heap.size w ((W7.setCell ⟨b, k, none⟩ (.string (t))).drew.setCell ⟨b, 4 + k, none⟩ (.int .i64 (t.size : Nat))) (k + 1)) := by
          have hd7 := hC7.out.disk
          rw [hmk.out] at hd7
          refine Lib.hid ⟨?_, fun i hi => ?_, ((hC7.out.kp.trans kp_set).drew.trans kp_set)⟩
          · have e := htk.out t.size; rw [show t.extract 0 t.size = t by simp] at e; rw [e]; exact hfin.out W7.drew hd7
          · rw [World.cell?_setCell_other _ _ _ _ (fun e => by have := congrArg Addr.block e; simp at this; omega), World.cell?_drew, World.cell?_setCell_other _ _ _ _ (fun e => by have := congrArg Addr.block e; simp at this; omega)]
            exact hC7.out.kept i hi
        go_still_tail 13, (by kernel_rfl)
        change wpList _ _ _ _ _ (World.drew _)
        go_wp2_with fail
        go_roundw
        case rel => exact ⟨k + 1, by omega, by go_num, hN⟩
        case measure => simp [intOf]; omega
    · obtain rfl : k = 4 := by omega
      have k10 : wr.cell? ⟨b, 10, none⟩ = some (.bool (m.loseTo xs 4).down) := obj_cell hC.out.disk rfl
      have k9 : wr.cell? ⟨b, 9, none⟩ = some (.int .i64 (m.loseTo xs 4).fuse) := obj_cell hC.out.disk rfl
      have z := obj_free hC.out.disk
      have hfin : IsR ((wr.setCell ⟨b, 10, none⟩ (.bool false)).setCell ⟨b, 9, none⟩ (.int .i64 (-1))) b (m.crash (xs 0) (xs 1) (xs 2) (xs 3)) := obj_set (obj_set hC.out.disk 10 (.bool false)) 9 (.int .i64 (-1))
      replace hfin := Lib.hid hfin
      go_wp2_with fail
      go_end0
      exact ⟨rfl, hfin.out, (hC.out.kp.trans kp_set).trans kp_set⟩
end Go.Proofs.Ytidofjjghbhaaaa
