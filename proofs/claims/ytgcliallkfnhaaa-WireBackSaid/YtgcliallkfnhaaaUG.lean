/- The contract of wire's Take. -/
import Derived.Test.YtgcliallkfnhaaaUF
namespace Go.Proofs.Ytgcliallkfnhaaa
open Go.RowKit
set_option linter.unusedVariables false

theorem below_drewN {B : Nat} {w w' : World} (h : Below B w w') (n : Nat) : Below B w (w'.drewN n) := ⟨h.os, h.tape, h.output, h.size, h.block⟩
/-- Take's way: what it holds -/
structure TkSt (v : World) (κ : Int) (sb : List UInt8) (g : Nat) (A D : Nat → Nat) (j : Nat) (sj : ByteArray) (wr : World) : Prop where
  obj : ∃ c : Cmd, wr.heap[v.heap.size]? = some (.cells c.arr 23 (0, 0)) ∧ c.Kind = κ ∧ ∀ i, i < 7 → c.num i = if i ∈ (flds κ).take j then toI (valU κ sb i) else 0
  rest : bl sj = sb.drop (1 + sumW ((flds κ).take j))
  fl : flds κ ≠ [] → wr.heap[g]? = some (.cells (flat A D (flds κ)) 67 (0, 0))
  fs : ∀ i, i < 7 → Fld wr v.heap.size i (A i) (D i)
  blw : Below v.heap.size v wr
section
variable {v wr w' : World} {κ : Int} {sb : List UInt8} {g : Nat} {A D : Nat → Nat} {j : Nat} {sj : ByteArray}
theorem TkSt.below (h : TkSt v κ sb g A D j sj wr) (hb : Below wr.heap.size wr w') : TkSt v κ sb g A D j sj w' := by
  obtain ⟨c, h1, h2⟩ := h.obj
  exact ⟨⟨c, (hb.block _ (obj_lt h1)).trans h1, h2⟩, h.rest, fun e => (hb.block _ (obj_lt (h.fl e))).trans (h.fl e), fun i hi => (h.fs i hi).below hb, h.blw.trans (hb.mono h.blw.size)⟩
theorem obj_ne {w : World} {x y : Nat} {cs ds : Array Value} {t u : TypeId} {fr fs : Nat × Nat} (hx : w.heap[x]? = some (.cells cs t fr)) (hy : w.heap[y]? = some (.cells ds u fs)) (h : t ≠ u) : x ≠ y := by
  rintro rfl
  rw [hx] at hy
  injection hy with hy
  injection hy with _ hy _
  exact h hy
theorem ptrT_ne (i : Nat) : ptrT i ≠ 23 := by unfold ptrT; split <;> decide
theorem TkSt.step (h : TkSt v κ sb g A D j sj wr) {i : Nat} (hi : (flds κ)[j]? = some i) (nq : Nat) :
    TkSt v κ sb g A D (j + 1) (sj.extract (wid i) sj.size) ((wr.drewN nq).setCell ⟨v.heap.size, i + 1, none⟩ (.int .i64 (toI (vls ((bl sj).take (wid i)))))) := by
  obtain ⟨c, h1, h2, h3⟩ := h.obj
  have hm := flds_mem (List.mem_of_getElem? hi)
  have hne : flds κ ≠ [] := fun e => by rw [e] at hi; simp at hi
  refine ⟨⟨c.setN i (toI (vls ((bl sj).take (wid i)))), ?_, by rw [setN_kind, h2], fun x hx => ?_⟩, ?_, fun e => ?_, fun x hx => ⟨?_, ?_⟩, ?_⟩
  · rw [← setN_arr _ _ _ hm.1]
    exact obj_set (w := wr.drewN nq) h1 _ _
  · rw [setN_num _ _ _ _ hm.1 hx]
    by_cases e : x = i
    · subst e
      rw [if_pos rfl, if_pos ((mem_succ hi).2 (.inr rfl))]
      unfold valU
      rw [if_pos hm.2, pos_flds hi, h.rest]
    · rw [if_neg e, h3 x hx]
      by_cases e2 : x ∈ (flds κ).take j
      · rw [if_pos e2, if_pos ((mem_succ hi).2 (.inl e2))]
      · rw [if_neg e2, if_neg (fun e3 => ((mem_succ hi).1 e3).elim e2 e)]
  · rw [bl_from, h.rest, List.drop_drop, sumW_succ _ _ _ hi, Nat.add_assoc]
  · exact (obj_other (w := wr.drewN nq) _ (obj_ne (h.fl e) h1 (by decide))).trans (h.fl e)
  · exact (obj_other (w := wr.drewN nq) _ (obj_ne (h.fs x hx).pa h1 (ptrT_ne x))).trans (h.fs x hx).pa
  · exact (obj_other (w := wr.drewN nq) _ (obj_ne (h.fs x hx).pb h1 (by decide))).trans (h.fs x hx).pb
  · exact (below_drewN h.blw nq).setCell (Nat.le_refl _) _
end
theorem results_take11 (tmps : Array Value) (w : World) (g : Nat) (cs : Array Value) (fr : Nat × Nat) (hp : tmps.getD 2 undef = .pointer (some ⟨g, 0, none⟩)) (hg : w.heap[g]? = some (.cells cs 23 fr)) (hs : (Try.prog.info? 23).map (·.size) = some cs.size) :
    (results Try.f11 tmps).run Try.prog w = .ok (.tuple #[.agg cs, tmps.getD 3 undef]) w := by
  rw [results_cell_tmp rfl, hp]
  simp [asAddr, run_loadVar_row w g 23 23 cs fr _ hg Try.underlying23 rfl hs]
theorem first_byte (s : ByteArray) (h : 0 < s.size) : toI (vls ((bl s).take 1)) = ((s[0].toNat : Nat) : Int) := by
  have hl := bl_length s
  have e : (bl s).take 1 = [s[0]] := by
    have h2 := List.take_succ_eq_append_getElem (l := bl s) (i := 0) (by omega)
    rw [List.take_zero] at h2
    exact h2
  rw [e]
  unfold vls toI
  have := s[0].toNat_lt
  simp
  omega

set_option maxHeartbeats 8000000 in
set_option maxRecDepth 100000 in
theorem take_any (s : ByteArray) (w : World) (hs : s.size ≤ 1000000) : Calls Try.prog 11 #[.string s] w fun e w' => e = .returned (takeV (takeC (bl s))) ∧ Below w.heap.size w w' := by
  have hB0 : Below w.heap.size w (w.alloc (.cells noCmd.arr 23)) := (Below.refl _ _).alloc (Nat.le_refl _) _
  have hbx : (w.alloc (.cells noCmd.arr 23)).heap[w.heap.size]? = some (.cells noCmd.arr 23 (0, 0)) := heap_alloc_new w _
  have hbl := bl_length s
  have arr0 : noCmd.arr = #[.int .i64 0, .int .i64 0, .int .i64 0, .int .i64 0, .int .i64 0, .int .i64 0, .int .i64 0, .int .i64 0] := rfl
  rw [arr0] at hB0 hbx
  generalize hv : w.alloc (.cells #[.int .i64 0, .int .i64 0, .int .i64 0, .int .i64 0, .int .i64 0, .int .i64 0, .int .i64 0, .int .i64 0] 23) = v at *
  generalize hB : w.heap.size = B at *
  have hvs : v.heap.size = B + 1 := by rw [← hv, ← hB]; simp
  replace hv := Lib.hid hv
  replace hB := Lib.hid hB
  replace hB0 := Lib.hid hB0
  replace hbx := Lib.hid hbx
  replace hvs := Lib.hid hvs
  replace arr0 := Lib.hid arr0
  go_enter Try.func11, Try.ntmps11
  go_upto_region 1 with (fail)
  rw [hB.out]
  change Code.wp _ _ _ _ (w.alloc (.cells #[.int .i64 0, .int .i64 0, .int .i64 0, .int .i64 0, .int .i64 0, .int .i64 0, .int .i64 0, .int .i64 0] 23))
  rw [hv.out]
  by_cases h0 : s.size < 1
  · have h0z : (s.size : Int) < 1 := by omega
    have hn : takeC (bl s) = none := take_none (fun h => h.1 (List.eq_nil_of_length_eq_zero (by omega)))
    replace hn := Lib.hid hn
    go_wp2_with (first | (refine wpList_store_row rfl 23 _ _ rfl B _ rfl rfl 23 _ hbx.out (by kernel_rfl) rfl (by simp [Value.oneCell']) ?_))
    (try simp only [Exit.inBlock, Exit.then])
    refine bodyPost_ret (results_take11 _ _ _ _ _ rfl (setRow_heap _ _ _ _ _ _ hbx.out) (by kernel_rfl)) rfl ?_
    exact ⟨by rw [hn.out]; rfl, below_setRow hB0.out (Nat.le_refl _) _⟩
  have h0z : ¬ (s.size : Int) < 1 := by omega
  have hpos : 0 < s.size := by omega
  have hT1 : ∀ w, Calls Try.prog 24 #[.string s, .int .i64 1] w fun e w' => e = .returned (.tuple #[.int .i64 ((s[0].toNat : Nat) : Int), .string (s.extract 1 s.size)]) ∧ ∃ nq, w' = w.drewN nq := fun w => by
    have := take24_any s 1 w (by omega) (by omega) hs
    rw [first_byte s hpos] at this
    exact this
  have htk : (told (bl s)).Kind = ((s[0].toNat : Nat) : Int) := by rw [told_kind, head_get s hpos]
  have hκ2 : 0 ≤ ((s[0].toNat : Nat) : Int) ∧ ((s[0].toNat : Nat) : Int) < 256 := by have := s[0].toNat_lt; omega
  generalize ((s[0].toNat : Nat) : Int) = κ at *
  replace hT1 := Lib.hid hT1
  replace htk := Lib.hid htk
  have hC0 := heap_alloc_new v (.cells #[.int .i64 0, .int .i64 0, .int .i64 0, .int .i64 0, .int .i64 0, .int .i64 0, .int .i64 0, .int .i64 0] 23)
  have hA0 : Below v.heap.size v (v.alloc (.cells #[.int .i64 0, .int .i64 0, .int .i64 0, .int .i64 0, .int .i64 0, .int .i64 0, .int .i64 0, .int .i64 0] 23)) := (Below.refl _ _).alloc (Nat.le_refl _) _
  replace hC0 := Lib.hid hC0
  replace hA0 := Lib.hid hA0
  go_wp2_with fail
  with_reducible refine (hT1.out _).mono ?_
  rintro e w1 ⟨rfl, nq, hw1⟩
  have hC1 : w1.heap[v.heap.size]? = some (.cells #[.int .i64 0, .int .i64 0, .int .i64 0, .int .i64 0, .int .i64 0, .int .i64 0, .int .i64 0, .int .i64 0] 23 (0, 0)) := by rw [hw1]; exact hC0.out
  have hA1 : Below v.heap.size v w1 := by rw [hw1]; exact below_drewN hA0.out nq
  have q0 : w1.cell? ⟨v.heap.size, 0, none⟩ = some (.int .i64 0) := obj_cell hC1 rfl
  have z0 := obj_free hC1 0
  have hC2 := obj_set hC1 0 (.int .i64 κ)
  have hA2 : Below v.heap.size v (w1.setCell ⟨v.heap.size, 0, none⟩ (.int .i64 κ)) := hA1.setCell (Nat.le_refl _) _
  replace hC1 := Lib.hid hC1
  replace hA1 := Lib.hid hA1
  replace hC2 := Lib.hid hC2
  replace hA2 := Lib.hid hA2
  replace hw1 := Lib.hid hw1
  go_upto_region 5 with (fail)
  generalize w1.setCell ⟨v.heap.size, 0, none⟩ (.int .i64 κ) = w2 at *
  have hC2' : w2.heap[v.heap.size]? = some (.cells (⟨κ, 0, 0, 0, 0, 0, 0, 0⟩ : Cmd).arr 23 (0, 0)) := hC2.out
  have cF := fields_any v.heap.size κ w2 (obj_cell hC2' rfl)
  have hS1b := bl_from s 1
  have hS1s : (s.extract 1 s.size).size + 1 = s.size := by rw [ext_size _ _ _ (Nat.le_refl _)]; omega
  generalize s.extract 1 s.size = S1 at *
  replace hC2' := Lib.hid hC2'
  replace cF := Lib.hid cF
  replace hS1b := Lib.hid hS1b
  clear hC2 hw1 hA1 hC1 q0 z0 hT1
  go_wp2_with fail
  with_reducible refine cF.out.mono ?_
  rintro e w3 ⟨vf, rfl, ⟨A, D, hfs, hfl⟩, hB3⟩
  obtain ⟨g, p, hvf, hpg⟩ := FRow.shape hfl
  subst hvf
  have hA3 : Below v.heap.size v w3 := hA2.out.trans (hB3.mono hA2.out.size)
  have hBb : B < v.heap.size := by rw [hvs.out]; omega
  have hbx3 := (hA3.block B hBb).trans hbx.out
  have hBB3 : Below B w w3 := hB0.out.trans (hA3.mono (Nat.le_of_lt hBb))
  have hS0 : TkSt v κ (bl s) g A D 0 S1 w3 := ⟨⟨_, (hB3.block _ (obj_lt hC2'.out)).trans hC2'.out, rfl, fun i hi => by
    rw [List.take_zero, if_neg (by simp)]
    unfold Cmd.num
    split <;> rfl⟩, by rw [hS1b.out]; rfl, hpg.2, fun i hi => (hfs i hi).1, hA3⟩
  have hSz := sizeOf_any κ g p A D w3 hpg.1 hpg.2
  have hn7 := flds_len κ
  replace hbx3 := Lib.hid hbx3
  replace hBB3 := Lib.hid hBB3
  replace hS0 := Lib.hid hS0
  replace hSz := Lib.hid hSz
  replace hfs := Lib.hid hfs
  replace hB3 := Lib.hid hB3
  replace hA3 := Lib.hid hA3
  replace hpg := Lib.hid hpg
  clear hfl
  by_cases hk : known κ = true
  · have hne := flds_known.2 hk
    have hp1 := hpg.out.1 hne
    subst hp1
    have hpos7 := pos_seven hk
    generalize hn : (flds κ).length = n at *
    have hn0 : n ≠ 0 := fun e => hne (List.eq_nil_of_length_eq_zero (by omega))
    have hnz : ((n : Int) == 0) = false := by simp; omega
    by_cases hsz : S1.size = sumW (flds κ)
    · have hszz : ((S1.size : Int) != (sumW (flds κ) : Nat)) = false := by simp; omega
      generalize hz : sumW (flds κ) = z at *
      replace hz := Lib.hid hz
      replace hn := Lib.hid hn
      go_upto_region 8 with (first | (go_at_call 26; (with_reducible refine hSz.out.mono ?_); rintro e w4 ⟨rfl, hB4⟩))
      have hS4 := hS0.out.below hB4
      have hbx4 := (hB4.block B (obj_lt hbx3.out)).trans hbx3.out
      have hBB4 : Below B w w4 := hBB3.out.trans (hB4.mono (Nat.le_of_lt (obj_lt hbx3.out)))
      replace hS4 := Lib.hid hS4
      replace hbx4 := Lib.hid hbx4
      replace hBB4 := Lib.hid hBB4
      replace hB4 := Lib.hid hB4
      go_wp2_with fail
      go_loopw [0, 32] (fun t i wr => ∃ (j : Nat) (sj : ByteArray), j ≤ n ∧ i = .int .i64 (j : Int) ∧ t = .string sj ∧ Hid (TkSt v κ (bl s) g A D j sj wr)) (fun _ i _ => n - (intOf i).toNat)
      case atStart => exact ⟨0, S1, by omega, rfl, rfl, hS4⟩
      case round =>
        obtain ⟨j, sj, hj, rfl, rfl, hS⟩ := hrel
        by_cases hjn : j < n
        · have kz : (j : Int) < (n : Int) := by omega
          obtain ⟨i, hi⟩ : ∃ i, (flds κ)[j]? = some i := ⟨_, List.getElem?_eq_getElem (by rw [hn.out]; exact hjn)⟩
          have him := flds_mem (List.mem_of_getElem? hi)
          have hfg := flat_get A D (flds κ) j i hi
          rw [Nat.mul_comm 3 j] at hfg
          have hSo := hS.out
          have r0 : wr.cell? ⟨g, j * 3, none⟩ = some (.int .i64 (wid i : Nat)) := obj_cell (hSo.fl hne) (hfg 0 (by omega))
          have r1 : wr.cell? ⟨g, j * 3 + 1, none⟩ = some (.func (.func (layF i)) #[] #[.pointer (some ⟨A i, 0, none⟩), .pointer (some ⟨D i, 0, none⟩)]) := obj_cell (hSo.fl hne) (hfg 1 (by omega))
          have r2 : wr.cell? ⟨g, j * 3 + 2, none⟩ = some (.func (.func (takF i)) #[] #[.pointer (some ⟨D i, 0, none⟩), .pointer (some ⟨A i, 0, none⟩)]) := obj_cell (hSo.fl hne) (hfg 2 (by omega))
          have hx := heap_alloc_new wr (.cells #[.int .i64 0, .nilFunc, .nilFunc] 67)
          have hW : Below wr.heap.size wr ((wr.alloc (.cells #[.int .i64 0, .nilFunc, .nilFunc] 67)).setRow wr.heap.size #[.int .i64 (wid i : Nat), .func (.func (layF i)) #[] #[.pointer (some ⟨A i, 0, none⟩), .pointer (some ⟨D i, 0, none⟩)], .func (.func (takF i)) #[] #[.pointer (some ⟨D i, 0, none⟩), .pointer (some ⟨A i, 0, none⟩)]]) := below_setRow ((Below.refl _ _).alloc (Nat.le_refl _) _) (Nat.le_refl _) _
          have r3 : ((wr.alloc (.cells #[.int .i64 0, .nilFunc, .nilFunc] 67)).setRow wr.heap.size #[.int .i64 (wid i : Nat), .func (.func (layF i)) #[] #[.pointer (some ⟨A i, 0, none⟩), .pointer (some ⟨D i, 0, none⟩)], .func (.func (takF i)) #[] #[.pointer (some ⟨D i, 0, none⟩), .pointer (some ⟨A i, 0, none⟩)]]).cell? ⟨wr.heap.size, 2, none⟩ = some (.func (.func (takF i)) #[] #[.pointer (some ⟨D i, 0, none⟩), .pointer (some ⟨A i, 0, none⟩)]) := obj_cell (setRow_heap _ _ _ _ _ _ hx) rfl
          have hS2 := hSo.below hW
          obtain ⟨cj, o1, o2, o3⟩ := hS2.obj
          have hbj := congrArg List.length hSo.rest
          rw [bl_length, List.length_drop, hbl] at hbj
          have hsu := sumW_succ (flds κ) j i hi
          have hsle : sumW ((flds κ).take (j + 1)) ≤ sumW (flds κ) := by
            have h1 := List.take_append_drop (j + 1) (flds κ)
            have h2 := sumW_app ((flds κ).take (j + 1)) ((flds κ).drop (j + 1))
            rw [h1] at h2
            omega
          rw [hz.out] at hsle
          have cC := ctake_any v.heap.size i (A i) (D i) sj _ _ (hS2.fs i him.1) (by omega) (by omega) (obj_cell o1 (arr_get cj i him.1)) (obj_free o1 _) (obj_ne o1 (hS2.fs i him.1).pa (Ne.symm (ptrT_ne i))) (obj_ne o1 (hS2.fs i him.1).pb (by decide))
          have hstep := fun nq => hS2.step hi nq
          have henter := enterT i
          replace hSo := Lib.hid hSo
          replace hS2 := Lib.hid hS2
          replace hstep := Lib.hid hstep
          replace hfg := Lib.hid hfg
          replace him := Lib.hid him
          replace hx := Lib.hid hx
          replace hW := Lib.hid hW
          replace cC := Lib.hid cC
          replace hsu := Lib.hid hsu
          replace hbj := Lib.hid hbj
          replace o1 := Lib.hid o1
          replace o3 := Lib.hid o3
          go_wp2_with (first | (refine wpList_store_row rfl 67 _ _ rfl wr.heap.size _ rfl rfl 67 _ hx.out (by kernel_rfl) rfl (by simp [Value.oneCell']) ?_))
          with_reducible refine cC.out.mono ?_
          rintro e w5 ⟨rfl, nq, hw5⟩
          have hS3 := hstep.out nq
          rw [← hw5] at hS3
          replace hS3 := Lib.hid hS3
          replace hw5 := Lib.hid hw5
          go_wp2_with fail
          go_roundw
          case rel => exact ⟨j + 1, _, by omega, by go_num, rfl, hS3⟩
          case measure => simp [intOf]; omega
        · obtain rfl : j = n := by omega
          have kz : ¬ (j : Int) < (j : Int) := by omega
          obtain ⟨c, o1, o2, o3⟩ := hS.out.obj
          have hc : c = told (bl s) := by
            refine Cmd.ext (o2.trans htk.out.symm) fun i hi => ?_
            rw [o3 i hi, told_num _ i hi, htk.out, ← hn.out, List.take_length]
            by_cases hm : hasN κ i = true
            · rw [if_pos ((mem_flds hi).2 hm)]
            · rw [if_neg (fun e => hm ((mem_flds hi).1 e))]
              unfold valU
              rw [if_neg hm]
              rfl
          subst hc
          have hmt := may_told (bl s) (by rw [htk.out]; exact hk)
          have hI := fun w => isId_any (told (bl s)).Id w
          have hbxr := (hS.out.blw.block B hBb).trans hbx.out
          have hBBr : Below B w wr := hB0.out.trans (hS.out.blw.mono (Nat.le_of_lt hBb))
          have hlen : (bl s).length = pos (told (bl s)).Kind 7 := by rw [htk.out, hpos7]; omega
          have hnn : bl s ≠ [] := fun e => by rw [e] at hbl; simp at hbl; omega
          have hN : idOk (told (bl s)).Id = false → takeC (bl s) = none := fun h => take_none (fun h2 => by rw [hmt, h] at h2; exact absurd h2.2.2 (by decide))
          have hY : idOk (told (bl s)).Id = true → takeC (bl s) = some (told (bl s)) := fun h => if_pos ⟨hnn, hlen, hmt.trans h⟩
          have q0 : wr.cell? ⟨v.heap.size, 0, none⟩ = some (.int .i64 (told (bl s)).Kind) := obj_cell o1 rfl
          have q1 : wr.cell? ⟨v.heap.size, 1, none⟩ = some (.int .i64 (told (bl s)).Member) := obj_cell o1 rfl
          have q2 : wr.cell? ⟨v.heap.size, 2, none⟩ = some (.int .i64 (told (bl s)).Id) := obj_cell o1 rfl
          have q3 : wr.cell? ⟨v.heap.size, 3, none⟩ = some (.int .i64 (told (bl s)).Other) := obj_cell o1 rfl
          have q4 : wr.cell? ⟨v.heap.size, 4, none⟩ = some (.int .i64 (told (bl s)).Cur) := obj_cell o1 rfl
          have q5 : wr.cell? ⟨v.heap.size, 5, none⟩ = some (.int .i64 (told (bl s)).Cur2) := obj_cell o1 rfl
          have q6 : wr.cell? ⟨v.heap.size, 6, none⟩ = some (.int .i64 (told (bl s)).Amount) := obj_cell o1 rfl
          have q7 : wr.cell? ⟨v.heap.size, 7, none⟩ = some (.int .i64 (told (bl s)).Amount2) := obj_cell o1 rfl
          generalize told (bl s) = T at *
          replace hbxr := Lib.hid hbxr
          replace hBBr := Lib.hid hBBr
          replace o1 := Lib.hid o1
          replace o3 := Lib.hid o3
          replace hmt := Lib.hid hmt
          replace hlen := Lib.hid hlen
          cases hid : idOk T.Id with
          | false =>
            have hR := hN hid
            rw [hid] at hI
            replace hR := Lib.hid hR
            replace hI := Lib.hid hI
            replace hid := Lib.hid hid
            clear hN hY
            go_wp2_with (first | (go_at_call 27; (with_reducible refine (hI.out _).mono ?_); rintro e z ⟨rfl, rfl⟩) | (refine wpList_store_row rfl 23 _ _ rfl B _ rfl rfl 23 _ hbxr.out (by kernel_rfl) rfl (by simp [Value.oneCell']) ?_))
            (try simp only [Exit.inBlock, Exit.then])
            refine bodyPost_ret (results_take11 _ _ _ _ _ rfl (setRow_heap _ _ _ _ _ _ hbxr.out) (by kernel_rfl)) rfl ?_
            exact ⟨by rw [hR.out]; rfl, below_setRow hBBr.out (Nat.le_refl _) _⟩
          | true =>
            have hR := hY hid
            rw [hid] at hI
            replace hR := Lib.hid hR
            replace hI := Lib.hid hI
            replace hid := Lib.hid hid
            clear hN hY
            go_wp2_with (first | (go_at_call 27; (with_reducible refine (hI.out _).mono ?_); rintro e z ⟨rfl, rfl⟩) | (refine wpList_store_row rfl 23 _ _ rfl B _ rfl rfl 23 _ hbxr.out (by kernel_rfl) rfl (by simp [Value.oneCell']) ?_))
            (try simp only [Exit.inBlock, Exit.then])
            refine bodyPost_ret (results_take11 _ _ _ _ _ rfl (setRow_heap _ _ _ _ _ _ hbxr.out) (by kernel_rfl)) rfl ?_
            have eT : T.arr = #[.int .i64 κ, .int .i64 T.Member, .int .i64 T.Id, .int .i64 T.Other, .int .i64 T.Cur, .int .i64 T.Cur2, .int .i64 T.Amount, .int .i64 T.Amount2] := by unfold Cmd.arr; rw [o2]
            exact ⟨by rw [hR.out]; show _ = Ending.returned (.tuple #[.agg T.arr, .int .i64 0]); rw [eT]; rfl, below_setRow hBBr.out (Nat.le_refl _) _⟩
    · have hszz : ((S1.size : Int) != (sumW (flds κ) : Nat)) = true := by simp; omega
      have hn2 : takeC (bl s) = none := take_none (fun h => by have := h.2.1; rw [htk.out, hpos7] at this; omega)
      replace hn2 := Lib.hid hn2
      generalize sumW (flds κ) = z at *
      go_upto_region 7 with (first | (go_at_call 26; (with_reducible refine hSz.out.mono ?_); rintro e w4 ⟨rfl, hB4⟩))
      have hbx4 := (hB4.block B (obj_lt hbx3.out)).trans hbx3.out
      have hBB4 : Below B w w4 := hBB3.out.trans (hB4.mono (Nat.le_of_lt (obj_lt hbx3.out)))
      replace hbx4 := Lib.hid hbx4
      replace hBB4 := Lib.hid hBB4
      replace hB4 := Lib.hid hB4
      go_wp2_with (first | (refine wpList_store_row rfl 23 _ _ rfl B _ rfl rfl 23 _ hbx4.out (by kernel_rfl) rfl (by simp [Value.oneCell']) ?_))
      (try simp only [Exit.inBlock, Exit.then])
      refine bodyPost_ret (results_take11 _ _ _ _ _ rfl (setRow_heap _ _ _ _ _ _ hbx4.out) (by kernel_rfl)) rfl ?_
      exact ⟨by rw [hn2.out]; rfl, below_setRow hBB4.out (Nat.le_refl _) _⟩
  · have hf0 : flds κ = [] := by
      cases h : flds κ with
      | nil => rfl
      | cons a b => exact absurd (flds_known.1 (by rw [h]; simp)) hk
    have hn : takeC (bl s) = none := take_none (fun h => by have := ((mayC_iff _).1 h.2.2).1; rw [htk.out] at this; exact hk this)
    replace hn := Lib.hid hn
    rw [hf0]
    simp only [List.length_nil]
    go_wp2_with (first | (refine wpList_store_row rfl 23 _ _ rfl B _ rfl rfl 23 _ hbx3.out (by kernel_rfl) rfl (by simp [Value.oneCell']) ?_))
    (try simp only [Exit.inBlock, Exit.then])
    refine bodyPost_ret (results_take11 _ _ _ _ _ rfl (setRow_heap _ _ _ _ _ _ hbx3.out) (by kernel_rfl)) rfl ?_
    exact ⟨by rw [hn.out]; rfl, below_setRow hBB3.out (Nat.le_refl _) _⟩
end Go.Proofs.Ytgcliallkfnhaaa
