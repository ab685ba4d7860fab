/- The contract of split's Shares: what is shared out. -/
import Derived.Test.YtdbjfginigekbaaS4
namespace Go.Proofs.Ytdbjfginigekbaa
open Go.RowKit
set_option linter.unusedVariables false

theorem sum_take_quo (T S : Int) (zs : List Int) (k : Nat) (h : k < zs.length) : sumL ((quos T S zs).take (k + 1)) = sumL ((quos T S zs).take k) + T * zs.getD k 0 / S := by
  rw [sum_take (quos T S zs) k (by rw [quos_len]; exact h), quos_at]

set_option maxHeartbeats 4000000 in
set_option maxRecDepth 100000 in
theorem shares_main (T : Int) (p : Option Addr) (len cap : Nat) (zs : List Int) (w : World) (hT : Amt T) (hs : Seq64 w p len zs) (hc : chk T zs = 0) (hS1 : 1 ≤ sumL zs) (hS2 : sumL zs ≤ 9223372036854775807) :
    Calls Try.prog 8 #[.int .i64 T, .slice p len cap] w fun e w' => Below w.heap.size w w' ∧ ∃ g, e = .returned (.tuple #[.slice (some ⟨g, 0, none⟩) zs.length zs.length, .int .i64 0]) ∧ w.heap.size ≤ g ∧ IRow 2 w' g (shares T zs) := by
  obtain ⟨h64, hT0, hz0⟩ := chk_zero hc
  obtain ⟨_, hT1⟩ := hT
  have hcon := check_any T p len cap zs w ⟨by omega, hT1⟩ hs
  have hsum := sum_any p len cap zs w hs
  rw [← (fit_yes (sumL zs) (by omega) hS2).1, ← (fit_yes (sumL zs) (by omega) hS2).2] at hsum
  rw [hc] at hcon
  have hmiss0 := missing_nonneg T zs hS1
  have hmiss1 := missing_le T zs hS1
  obtain ⟨mk, hmk⟩ := Int.eq_ofNat_of_zero_le hmiss0
  obtain ⟨hl, hz, hm, hcells⟩ := hs
  rw [hl] at h64 hmiss1
  have hne : len ≠ 0 := by
    intro h0
    rw [h0] at hl
    have : zs = [] := List.length_eq_zero_iff.1 hl
    subst this
    simp [sumL] at hS1
  obtain ⟨m, hm1⟩ : ∃ m, m + 1 = len := ⟨len - 1, by omega⟩
  have hquo : ∀ k, k < len → 0 ≤ zs.getD k 0 ∧ zs.getD k 0 ≤ sumL zs := fun k hk => by
    have hin : zs.getD k 0 ∈ zs := by rw [List.getD_eq_getElem?_getD, List.getElem?_eq_getElem (by rw [hl]; exact hk)]; exact List.getElem_mem _
    exact ⟨hz0 _ hin, mem_le_sum hz0 _ hin⟩
  have hleft := left_bd T (sumL zs) zs hT0 hS1 hz0 hmiss0
  have hqlt : 1 ≤ mk → ∀ i, T * zs.getD i 0 / sumL zs + 1 ≤ T := fun h i => quo_lt T zs hT0 hS1 hz0 i (by rw [hmk]; omega)
  have hstep : ∀ k, k < len → sumL ((quos T (sumL zs) zs).take (k + 1)) = sumL ((quos T (sumL zs) zs).take k) + T * zs.getD k 0 / sumL zs := fun k hk => sum_take_quo T (sumL zs) zs k (by rw [hl]; exact hk)
  have hend : T - sumL ((quos T (sumL zs) zs).take len) = (mk : Int) := by
    rw [List.take_of_length_le (by rw [quos_len, hl]; exact Nat.le_refl _)]; exact hmk
  have hq0 : laidBy (fun i => T * zs.getD i 0 / sumL zs) len len = quos T (sumL zs) zs := by
    have := laidBy_all (quos T (sumL zs) zs)
    rw [quos_len, hl] at this
    simpa only [quos_at] using this
  have hr0 : laidBy (fun i => T * zs.getD i 0 % sumL zs) len len = rems T (sumL zs) zs := by
    have := laidBy_all (rems T (sumL zs) zs)
    rw [rems_len, hl] at this
    simpa only [rems_at] using this
  have hrl : (rems T (sumL zs) zs).length = m + 1 := by rw [rems_len, hl, hm1]
  have mk22 := make22 len (by omega)
  have mk38 := make38 len (by omega)
  have hmkle : mk ≤ len := by omega
  have hfin := given_all T zs
  rw [hl] at hfin
  have hgst := given_step T zs
  rw [hl] at hgst
  replace hl := Lib.hid hl
  replace hz := Lib.hid hz
  replace hcells := Lib.hid hcells
  replace hquo := Lib.hid hquo
  replace hleft := Lib.hid hleft
  replace hqlt := Lib.hid hqlt
  replace hstep := Lib.hid hstep
  replace hend := Lib.hid hend
  replace hq0 := Lib.hid hq0
  replace hr0 := Lib.hid hr0
  replace hrl := Lib.hid hrl
  replace hfin := Lib.hid hfin
  replace hgst := Lib.hid hgst
  replace hmk := Lib.hid hmk
  replace hm1 := Lib.hid hm1
  replace hz0 := Lib.hid hz0
  clear hc hmiss0 hmiss1
  generalize hSe : sumL zs = S at *
  replace hSe := Lib.hid hSe
  go_enter Try.func8, Try.ntmps8
  go_upto_region 13 with (first | (go_at_call 18; refine hcon.mono ?_; rintro e w' ⟨rfl, hww⟩; replace hww := hww.symm; subst hww) | (go_at_call 15; refine hsum.mono ?_; rintro e w1 ⟨rfl, hb1⟩))
  clear hcon hsum mk22 mk38
  have hb2 : Below w.heap.size w ((w1.alloc (Obj.cells (zeros len) 2)).alloc (Obj.cells (zeros len) 2)) := (hb1.alloc hb1.size _).alloc (by simp; exact Nat.le_succ_of_le hb1.size) _
  have hGle := hb1.size
  generalize hG : w1.heap.size = G at *
  have r1 : IRow 2 ((w1.alloc (Obj.cells (zeros len) 2)).alloc (Obj.cells (zeros len) 2)) G (laidBy (fun i => T * zs.getD i 0 / S) len 0) := by
    rw [laidBy_zero, ← hG]; exact (IRow.made 2 w1 len).alloc _
  have r2 : IRow 2 ((w1.alloc (Obj.cells (zeros len) 2)).alloc (Obj.cells (zeros len) 2)) (G + 1) (laidBy (fun i => T * zs.getD i 0 % S) len 0) := by
    rw [laidBy_zero]
    have := IRow.made 2 (w1.alloc (Obj.cells (zeros len) 2)) len
    simp only [World.size_alloc, hG] at this
    exact this
  generalize ((w1.alloc (Obj.cells (zeros len) 2)).alloc (Obj.cells (zeros len) 2)) = w2 at *
  clear hb1 hG w1
  rw [show (S == 0) = false from by simp; omega]
  go_loopw [11, 41] (fun ms i wr => ∃ k : Nat, k ≤ len ∧ i = .int .i64 k ∧ ms = .int .i64 (T - sumL ((quos T S zs).take k)) ∧ IRow 2 wr G (laidBy (fun i => T * zs.getD i 0 / S) len k) ∧ IRow 2 wr (G + 1) (laidBy (fun i => T * zs.getD i 0 % S) len k) ∧ Below w.heap.size w wr) (fun _ i _ => len - (intOf i).toNat)
  case atStart => exact ⟨0, by omega, rfl, by simp [sumL], r1, r2, hb2⟩
  case round =>
    clear r1 r2 hb2
    obtain ⟨k, hk, rfl, rfl, r1, r2, hb2⟩ := hrel
    by_cases hlt : k < len
    · obtain ⟨b, off, rfl, hblt, hc⟩ := hcells.out.resolve_left (by omega)
      have hcell : wr.cell? ⟨b, off + k, none⟩ = some (.int .i64 (zs.getD k 0)) := (hb2.cell (p := ⟨b, off + k, none⟩) hblt).trans (hc k hlt)
      obtain ⟨q0, q1⟩ := hquo.out k hlt
      obtain ⟨z0, z1⟩ := hz.out k
      have hpart := part_any T (zs.getD k 0) S wr hT0 hT1 q0 q1 hS1 hS2
      have hst := hstep.out k hlt
      obtain ⟨l0, l1⟩ := hleft.out k
      obtain ⟨l2, l3⟩ := hleft.out (k + 1)
      have e1 := laidBy_set (fun i => T * zs.getD i 0 / S) len k hlt
      have e2 := laidBy_set (fun i => T * zs.getD i 0 % S) len k hlt
      have hkz : (k : Int) < (len : Int) := by omega
      rw [hst] at l2 l3
      replace hst := Lib.hid hst
      replace e1 := Lib.hid e1
      replace e2 := Lib.hid e2
      generalize T * zs.getD k 0 / S = qk at *
      generalize T * zs.getD k 0 % S = rk at *
      generalize zs.getD k 0 = z at *
      generalize sumL (List.take k (quos T S zs)) = sk at *
      replace r1 := Lib.hid r1
      replace r2 := Lib.hid r2
      replace hb2 := Lib.hid hb2
      clear hc
      go_wp2_with (first | (go_at_call 19; refine hpart.mono ?_; rintro e w3 ⟨rfl, hb3⟩
                            have s1 := r1.out.kept hb3; have s2 := r2.out.kept hb3
                            have c1 := s1.cell (i := k) (by rw [laidBy_length]; exact hlt); have c2 := s2.cell (i := k) (by rw [laidBy_length]; exact hlt)
                            have f1 := s1.free (i := k); have f2 := s2.free (i := k)
                            replace s1 := Lib.hid s1; replace s2 := Lib.hid s2; replace hb3 := Lib.hid hb3))
      go_roundw
      case rel =>
        refine ⟨k + 1, by omega, by go_num, ?_, ?_, ?_, ?_⟩
        · rw [hst.out]; congr 1; omega
        · rw [← e1.out]; exact (s1.out.set qk).other (by simp) _
        · rw [← e2.out]; exact (s2.out.other (by simp) _).set rk
        · exact ((hb2.out.trans (hb3.out.mono hb2.out.size)).setCell (by simpa using hGle) _).setCell (by simp; omega) _
      case measure => simp [intOf]; omega
    · have hkn : k = len := by omega
      subst hkn
      rw [hq0.out] at r1
      rw [hr0.out] at r2
      have hord := order_any (G + 1) m (rems T S zs) wr (by have := hm1.out; omega) hrl.out r2
      rw [hm1.out] at hord
      have hgz := given_zero T zs
      rw [hSe.out] at hgz
      have hmkz : (mk : Int) ≤ (k : Int) := by omega
      replace hgz := Lib.hid hgz
      replace r1 := Lib.hid r1
      replace hb2 := Lib.hid hb2
      clear r2
      rw [hend.out]
      go_upto_region 19 with (first | (go_at_call 20; refine hord.mono ?_; rintro e w3 ⟨g3, L, rfl, hg3, hO, hb3⟩))
      have hGlt := r1.out.lt
      have hne3 : G ≠ g3 := by omega
      have hbw : Below w.heap.size w w3 := hb2.out.trans (hb3.mono hb2.out.size)
      have s1 := r1.out.kept hb3
      rw [← hgz.out L] at s1
      have hOc := hO.cells
      have hLlen : L.length = k := by have := hO.perm.length_eq; simpa using this
      replace hO := Lib.hid hO
      clear hord hb3
      go_loopw [71] (fun i wv => ∃ j : Nat, j ≤ mk ∧ i = .int .i64 j ∧ IRow 2 wv G (given T zs L j) ∧ (∀ i, i < k → wv.cell? ⟨g3, i, none⟩ = some (.int .i64 ((L.getD i 0 : Nat) : Int))) ∧ Below w.heap.size w wv) (fun i _ => mk - (intOf i).toNat)
      case atStart => exact ⟨0, by omega, rfl, s1, hOc, hbw⟩
      case round =>
        clear s1 hOc hbw
        obtain ⟨j, hj, rfl, s1, hOc, hbw⟩ := hrel
        by_cases hlt2 : j < mk
        · have hLj : L[j]? = some (L.getD j 0) := by
            rw [List.getD_eq_getElem?_getD, List.getElem?_eq_getElem (by omega)]; rfl
          obtain ⟨g1, g2, g4⟩ := hgst.out L hO.out.perm j (L.getD j 0) hLj
          have hcell := hOc j (by omega)
          have hql := hqlt.out (by omega) (L.getD j 0)
          have c1 := s1.cell (i := L.getD j 0) (by rw [given_len, hl.out]; exact g2)
          have f1 := s1.free (i := L.getD j 0)
          rw [g4] at c1 g1
          obtain ⟨n0, n1⟩ := hquo.out (L.getD j 0) g2
          have q0 : 0 ≤ T * zs.getD (L.getD j 0) 0 / S := Int.ediv_nonneg (Int.mul_nonneg hT0 n0) (by omega)
          generalize T * zs.getD (L.getD j 0) 0 / S = qk at *
          generalize L.getD j 0 = x at *
          have hxz : (x : Int) < (k : Int) := by omega
          have hjz : (j : Int) < (mk : Int) := by omega
          replace s1 := Lib.hid s1
          replace g1 := Lib.hid g1
          replace hOc := Lib.hid hOc
          replace hbw := Lib.hid hbw
          replace hLj := Lib.hid hLj
          go_wp2_with fail
          go_roundw
          case rel =>
            refine ⟨j + 1, by omega, by go_num, ?_, fun i hi => ?_, hbw.out.setCell (by simpa using hGle) _⟩
            · rw [← g1.out]; exact s1.out.set (qk + 1)
            · rw [World.cell?_setCell_other _ _ _ _ (by intro e; simp at e)]
              exact hOc.out i hi
          case measure => simp [intOf]; omega
        · have hjn : j = mk := by omega
          subst hjn
          have hfn := hfin.out L hO.out.perm hO.out.sorted j hmk.out.symm
          rw [hfn] at s1
          go_wp2_with fail
          go_ret2
          refine ⟨hbw, G, ?_, hGle, s1⟩
          rw [hl.out]
          rfl

theorem shares_any (T : Int) (p : Option Addr) (len cap : Nat) (zs : List Int) (w : World) (hT : Amt T) (hs : Seq64 w p len zs) :
    Calls Try.prog 8 #[.int .i64 T, .slice p len cap] w fun e w' => Below w.heap.size w w' ∧ ShOut T zs w w' e := by
  by_cases hc : chk T zs = 0
  · obtain ⟨h64, hT0, hz0⟩ := chk_zero hc
    have hS0 := sum_nonneg hz0
    by_cases h3 : 9223372036854775807 < sumL zs
    · have e : shE T zs = 3 := by unfold shE; rw [if_neg (by simp [hc]), if_pos h3]
      refine (shares_err2 T p len cap zs w hT hs hc h3).mono ?_
      rintro e' w' ⟨hb, rfl⟩
      exact ⟨hb, Or.inl ⟨by rw [e]; decide, by rw [e]⟩⟩
    · by_cases h1 : sumL zs = 0
      · have e : shE T zs = 1 := by unfold shE; rw [if_neg (by simp [hc]), if_neg h3, if_pos h1]
        refine (shares_err3 T p len cap zs w hT hs hc h1).mono ?_
        rintro e' w' ⟨hb, rfl⟩
        exact ⟨hb, Or.inl ⟨by rw [e]; decide, by rw [e]⟩⟩
      · have e : shE T zs = 0 := by unfold shE; rw [if_neg (by simp [hc]), if_neg h3, if_neg h1]
        refine (shares_main T p len cap zs w hT hs hc (by omega) (by omega)).mono ?_
        rintro e' w' ⟨hb, hg⟩
        exact ⟨hb, Or.inr ⟨e, hg⟩⟩
  · have e : shE T zs = chk T zs := by unfold shE; rw [if_pos hc]
    refine (shares_err1 T p len cap zs w hT hs hc).mono ?_
    rintro e' w' ⟨rfl, rfl⟩
    exact ⟨Below.refl _ _, Or.inl ⟨by rw [e]; exact hc, by rw [e]⟩⟩

end Go.Proofs.Ytdbjfginigekbaa
