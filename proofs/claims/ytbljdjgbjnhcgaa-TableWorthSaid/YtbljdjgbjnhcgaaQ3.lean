/- The contracts of the reference's With and Same. -/
import Derived.Test.YtbljdjgbjnhcgaaQ2
namespace Go.Proofs.Ytbljdjgbjnhcgaa
open Go.RowKit
set_option linter.unusedVariables false

set_option maxHeartbeats 2000000 in
set_option maxRecDepth 100000 in
theorem withR_any (p : Option Addr) (len cap : Nat) (cs : List Cur) (k : Nat) (x y : Int) (w : World) (hT : Tab w p len cs) (hk : k < len) (hl : len ≤ 1000) (hx : Amt x) (hy : Amt y) :
    Calls Try.prog 14 #[.slice p len cap, .int .i64 k, .int .i64 x, .int .i64 y] w (WithOut (cs.set k ⟨(cAt cs k).code, x, y⟩) len w) := by
  have hT' := hT
  obtain ⟨hle, hz, hm, hcells⟩ := hT
  obtain ⟨b, off, rfl, hblt, hc⟩ := hcells.resolve_left (by omega)
  obtain ⟨g, c, w1, hrun, hown, hb1⟩ := append_tab w b off len cap cs hT' (by omega) hl
  have hzk := hz k
  have hz' : ∀ i, CurOk (cAt (cs.set k ⟨(cAt cs k).code, x, y⟩) i) := curOk_set hz ⟨hzk.1, hx, hy⟩
  have hset1 := cells3_rate cs k x (by rw [hle]; exact hk)
  have hset2 := cells3_cut (cs.set k { cAt cs k with rate := x }) k y (by rw [List.length_set, hle]; exact hk)
  rw [set_both (by rw [hle]; exact hk)] at hset2
  obtain ⟨d0, d1, d2⟩ := cells3_get cs k (by rw [hle]; exact hk)
  have hle' : (cs.set k ⟨(cAt cs k).code, x, y⟩).length = len := by rw [List.length_set, hle]
  have f1 : w1.cell? ⟨g, k * 3 + 1, none⟩ = _ := (hown.cellAt (k * 3 + 1) (by omega)).trans d1
  have f2 := hown.frozenAt (k * 3 + 1)
  have hg := hown.lt g rfl
  obtain ⟨hst, _⟩ := hown.stored (k * 3 + 1) (.int .i64 x)
  rw [hset1] at hst
  have g1 : (w1.setCell ⟨g, k * 3 + 1, none⟩ (.int .i64 x)).cell? ⟨g, k * 3 + 2, none⟩ = some (.int .i64 (cAt (cs.set k { cAt cs k with rate := x }) k).cut) := (hst.cellAt (k * 3 + 2) (by omega)).trans (cells3_get _ k (by rw [List.length_set, hle]; exact hk)).2.2
  have g2 := hst.frozenAt (k * 3 + 2)
  obtain ⟨hst2, _⟩ := hst.stored (k * 3 + 2) (.int .i64 y)
  rw [hset2] at hst2
  have hb2 := hb1.setCell (p := ⟨g, k * 3 + 1, none⟩) hg.1 (.int .i64 x)
  have hb3 := hb2.setCell (p := ⟨g, k * 3 + 2, none⟩) hg.1 (.int .i64 y)
  clear hset1 hset2 d0 d1 d2 hst hc hcells hzk hT'
  generalize cs.set k ⟨(cAt cs k).code, x, y⟩ = cs' at *
  have hT1 := Tab.of_own hst2 hle' hz' hm
  generalize (cAt (cs.set k { cAt cs k with rate := x }) k).cut = u1 at *
  generalize (cAt cs k).rate = u2 at *
  replace hb2 := Lib.hid hb2
  replace hb3 := Lib.hid hb3
  replace hb1 := Lib.hid hb1
  replace hle := Lib.hid hle
  replace hle' := Lib.hid hle'
  replace hz' := Lib.hid hz'
  replace hz := Lib.hid hz
  replace hown := Lib.hid hown
  replace hst2 := Lib.hid hst2
  replace hrun := Lib.hid hrun
  have hcon := checkR_any (some ⟨g, 0, none⟩) len c cs' _ hT1
  replace hT1 := Lib.hid hT1
  by_cases hok : chkT cs' = 0
  · rw [hok] at hcon
    replace hok := Lib.hid hok
    replace hcon := Lib.hid hcon
    go_enter Try.func14, Try.ntmps14
    go_wp2_with (at_builtin; refine wpList_apx rfl _ _ _ _ rfl _ _ _ _ rfl rfl hrun.out ?_)
    refine hcon.out.mono ?_
    rintro e w2 ⟨rfl, hb4⟩
    have hT2 := Lib.hid (hT1.out.kept hb4)
    replace hb4 := Lib.hid (chain_trans hb3.out hb4)
    go_wp2_with fail
    go_ret2
    exact ⟨hb4.out, .inr ⟨hok.out, g, c, rfl, hT2.out⟩⟩
  · generalize hn : chkT cs' = n at *
    have hn1 : (n != 0) = true := by simpa using hok
    replace hn := Lib.hid hn
    replace hok := Lib.hid hok
    replace hcon := Lib.hid hcon
    go_enter Try.func14, Try.ntmps14
    go_wp2_with (at_builtin; refine wpList_apx rfl _ _ _ _ rfl _ _ _ _ rfl rfl hrun.out ?_)
    refine hcon.out.mono ?_
    rintro e w2 ⟨rfl, hb4⟩
    replace hb4 := Lib.hid (chain_trans hb3.out hb4)
    go_wp2_with fail
    go_ret2
    exact ⟨hb4.out, .inl ⟨by rw [hn.out]; exact hok.out, rfl⟩⟩

theorem withR_none (p : Option Addr) (len cap : Nat) (cur x y : Int) (w : World) (h : ¬ (0 ≤ cur ∧ cur < len)) :
    Calls Try.prog 14 #[.slice p len cap, .int .i64 cur, .int .i64 x, .int .i64 y] w fun e w' => e = .returned (.tuple #[.slice none 0 0, .int .i64 1]) ∧ w = w' := by
  by_cases h0 : cur < 0
  · have z0 : decide (cur < 0) = true := by simpa using h0
    clear h
    go_enter Try.func14, Try.ntmps14
    go_wp2_with fail
    go_ret2
    exact ⟨rfl, rfl⟩
  · have z0 : decide (cur < 0) = false := by simpa using h0
    have z1 : (len : Int) ≤ cur := by omega
    clear h
    go_enter Try.func14, Try.ntmps14
    go_wp2_with fail
    go_ret2
    exact ⟨rfl, rfl⟩

set_option maxHeartbeats 1000000 in
set_option maxRecDepth 100000 in
theorem same_any (p q : Option Addr) (len cap cap' : Nat) (cs : List Cur) (w : World) (hs : Tab w p len cs) (hq : Tab w q len cs) :
    Calls Try.prog 16 #[.slice p len cap, .slice q len cap'] w fun e w' => e = .returned (.bool true) ∧ Below w.heap.size w w' := by
  obtain ⟨hl, hz, hm, hcells⟩ := hs
  obtain ⟨_, _, _, hcells2⟩ := hq
  replace hl := Lib.hid hl
  replace hz := Lib.hid hz
  replace hcells := Lib.hid hcells
  replace hcells2 := Lib.hid hcells2
  go_enter Try.func16, Try.ntmps16
  go_wp2_with fail
  go_loopw [5] (fun i wr => ∃ k : Nat, k ≤ len ∧ i = .int .i64 k ∧ Below w.heap.size w wr) (fun i _ => len - (intOf i).toNat)
  case atStart => exact ⟨0, by omega, rfl, Below.refl _ _⟩
  case round =>
    obtain ⟨k, hk, rfl, hb⟩ := hrel
    by_cases hlt : k < len
    · obtain ⟨b, off, rfl, hblt, hc⟩ := hcells.out.resolve_left (by omega)
      obtain ⟨b2, off2, rfl, hblt2, hc2⟩ := hcells2.out.resolve_left (by omega)
      obtain ⟨c0, c1, c2⟩ := hc k hlt
      obtain ⟨d0, d1, d2⟩ := hc2 k hlt
      rw [← hb.cell (p := ⟨b, off + k * 3, none⟩) hblt] at c0
      rw [← hb.cell (p := ⟨b, off + k * 3 + 1, none⟩) hblt] at c1
      rw [← hb.cell (p := ⟨b, off + k * 3 + 2, none⟩) hblt] at c2
      rw [← hb.cell (p := ⟨b2, off2 + k * 3, none⟩) hblt2] at d0
      rw [← hb.cell (p := ⟨b2, off2 + k * 3 + 1, none⟩) hblt2] at d1
      rw [← hb.cell (p := ⟨b2, off2 + k * 3 + 2, none⟩) hblt2] at d2
      have hne := neq_cur (cAt cs k).code (cAt cs k).rate (cAt cs k).cut
      have hkz : (k : Int) < (len : Int) := by omega
      have hqc := eq30c
      clear hc hc2
      replace hb := Lib.hid hb
      go_wp2_with fail
      go_quiet (fail)
      go_wp2_with fail
      go_roundw
      case rel => exact ⟨k + 1, by omega, by go_num, below_drewN hb.out nq⟩
      case measure => simp [intOf]; omega
    · replace hb := Lib.hid hb
      go_wp2_with fail
      go_ret
      exact ⟨rfl, hb.out⟩
end Go.Proofs.Ytbljdjgbjnhcgaa
