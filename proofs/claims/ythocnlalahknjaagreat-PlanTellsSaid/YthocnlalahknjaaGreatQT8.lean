/- The contract of the reference's Shares. -/
import Derived.Test.YthocnlalahknjaaGreatQT7
namespace Go.Proofs.YthocnlalahknjaaGreat
open Go.RowKit
set_option linter.unusedVariables false

theorem exists_pos {l : List Int} (h0 : ∀ z ∈ l, 0 ≤ z) (hS : 1 ≤ sumL l) : ∃ z ∈ l, 0 < z := by
  induction l with
  | nil => simp [sumL] at hS
  | cons a l ih =>
    by_cases ha : 0 < a
    · exact ⟨a, by simp, ha⟩
    · have h1 := h0 a (by simp)
      simp only [sumL] at hS
      obtain ⟨z, hz, hp⟩ := ih (fun z hz => h0 z (by simp [hz])) (by omega)
      exact ⟨z, by simp [hz], hp⟩

theorem RSt.formOut {w W : World} {b8 b13 : Nat} {S G : Int} {out left : Value} {xs rs : List Int} (h : RSt w W b8 b13 S G out left xs rs) (hn : 1 ≤ xs.length) : ∃ g cap, out = .slice (some ⟨g, 0, none⟩) xs.length cap := by
  rcases h.hout.2 with ⟨rfl, h0⟩ | ⟨g, cap, cur, rfl, h1⟩
  · omega
  · exact ⟨g, cap, rfl⟩
theorem RSt.formLeft {w W : World} {b8 b13 : Nat} {S G : Int} {out left : Value} {xs rs : List Int} (h : RSt w W b8 b13 S G out left xs rs) (hn : 1 ≤ rs.length) : ∃ g cap, left = .slice (some ⟨g, 0, none⟩) rs.length cap := by
  obtain ⟨bs, el⟩ := h.hleft
  rcases el.2.1.2 with ⟨rfl, h0⟩ | ⟨g, cap, cur, rfl, h1⟩
  · omega
  · exact ⟨g, cap, rfl⟩
theorem small_pw (S : Int) (h : S ≤ 9223372036854775807) : S < pw 5 := by
  have : (9223372036854775807 : Int) < pw 5 := by decide
  omega
theorem Box.big {W : World} {b L : Nat} {N : Int} {n : Bool} {p : Option Addr} {l c : Nat} (h : Box W b) (hv : IsB W (.agg #[.bool n, .slice p l c]) L N) :
    BigAt ((W.setCell ⟨b, 0, none⟩ (.bool n)).setCell ⟨b, 1, none⟩ (.slice p l c)) b L N n p l c ∧ Keep3 W ((W.setCell ⟨b, 0, none⟩ (.bool n)).setCell ⟨b, 1, none⟩ (.slice p l c)) := by
  obtain ⟨x, q, l', c', e⟩ := h
  have := BigAt.put (L := L) (N := N) e hv
  exact ⟨this.1, this.2.1⟩
theorem RSt.start {w W : World} {b8 : Nat} {S : Int} {n : Bool} {p : Option Addr} {l c : Nat} (hb : Below w.heap.size w W) (h8 : BigAt W b8 70 S n p l c) :
    RSt w (((W.alloc (.cells #[] 2)).alloc (.cells #[] 79)).alloc (.cells #[.bool false, .slice none 0 0] 79)) b8 (W.heap.size + 1 + 1) S 0 (.slice (some ⟨W.heap.size, 0, none⟩) 0 0) (.slice (some ⟨W.heap.size + 1, 0, none⟩) 0 0) [] [] := by
  have a1 : Below W.heap.size W (W.alloc (.cells #[] 2)) := (Below.refl _ _).alloc (Nat.le_refl _) _
  have a2 : Below (W.alloc (.cells #[] 2)).heap.size (W.alloc (.cells #[] 2)) ((W.alloc (.cells #[] 2)).alloc (.cells #[] 79)) := (Below.refl _ _).alloc (Nat.le_refl _) _
  have a3 : Below ((W.alloc (.cells #[] 2)).alloc (.cells #[] 79)).heap.size ((W.alloc (.cells #[] 2)).alloc (.cells #[] 79)) (((W.alloc (.cells #[] 2)).alloc (.cells #[] 79)).alloc (.cells #[.bool false, .slice none 0 0] 79)) := (Below.refl _ _).alloc (Nat.le_refl _) _
  have hsz := hb.size
  have hlt := h8.lt
  have g1 := Grows.made W w.heap.size hsz
  have g2 := Lefts.made (W.alloc (.cells #[] 2)) w.heap.size (by simp; omega)
  simp only [World.size_alloc] at g2
  have g3 := BigAt.made ((W.alloc (.cells #[] 2)).alloc (.cells #[] 79)) false none 0 0
  simp only [World.size_alloc] at g3
  refine ⟨((hb.alloc hsz _).alloc (by simp; omega) _).alloc (by simp; omega) _, ⟨n, p, l, c, ((h8.kept a1).kept a2).kept a3⟩, ⟨false, none, 0, 0, g3, ⟨false, none, 0, 0, [], rfl, DRow.nil _ _, Nat.le_refl _, fun _ => rfl, by omega, rfl, fun _ => rfl, by omega⟩⟩,
    (g1.kept a2).kept a3, ⟨[], g2.kept a3⟩, by simp [Value.ownBlock]; omega, by simp [Value.ownBlock], by omega, by omega⟩

set_option maxHeartbeats 4000000 in
set_option maxRecDepth 100000 in
theorem sharesR_main (T : Int) (p : Option Addr) (len cap : Nat) (zs : List Int) (w : World) (hT : Amt T) (hs : Seq64 w p len zs) (hE : shE T zs = 0) :
    Calls Tryz.prog 68 #[.int .i64 T, .slice p len cap] w fun e w' => Below w.heap.size w w' ∧ ∃ p cap, e = .returned (.tuple #[.slice p zs.length cap, .int .i64 0]) ∧ Seq64 w' p zs.length (shares T zs) := by
  obtain ⟨hc, hS1, hS2, h64, hT0, hz0⟩ := shE_zero hE
  obtain ⟨_, hT1⟩ := hT
  have hpos := exists_pos hz0 hS1
  have htot := total_any p len cap zs w hs (by have := hs.1; omega)
  have hquo : ∀ k, k < len → 0 ≤ zs.getD k 0 ∧ zs.getD k 0 ≤ sumL zs := fun k hk => by
    have hin : zs.getD k 0 ∈ zs := by rw [List.getD_eq_getElem?_getD, List.getElem?_eq_getElem (by rw [hs.1]; exact hk)]; exact List.getElem_mem _
    exact ⟨hz0 _ hin, mem_le_sum hz0 _ hin⟩
  obtain ⟨hl, hz, hm, hcells⟩ := hs
  rw [hl] at h64
  have h64z : ¬ (64 : Int) < (len : Int) := by omega
  replace hl := Lib.hid hl
  replace hz := Lib.hid hz
  replace hcells := Lib.hid hcells
  replace hpos := Lib.hid hpos
  replace hz0 := Lib.hid hz0
  replace htot := Lib.hid htot
  replace hquo := Lib.hid hquo
  replace hE := Lib.hid hE
  clear hc
  have hTn : ¬ T < 0 := by omega
  generalize hSe : sumL zs = S at *
  replace hSe := Lib.hid hSe
  go_enter Tryz.func68, Tryz.ntmps68
  go_upto_region 5 with (fail)
  go_loopw [6, 7] (fun sm i wr => ∃ (k : Nat) (bb : Bool), k ≤ len ∧ i = .int .i64 k ∧ sm = .bool bb ∧ (bb = true ↔ ∃ z ∈ zs.take k, 0 < z) ∧ wr = w) (fun _ i _ => len - (intOf i).toNat)
  case atStart => exact ⟨0, false, by omega, rfl, rfl, by simp, rfl⟩
  case round =>
    obtain ⟨k, bb, hk, rfl, rfl, hbb, hww⟩ := hrel
    replace hww := hww.symm
    subst hww
    by_cases hlt : k < len
    · obtain ⟨b, off, rfl, hblt, hcc⟩ := hcells.out.resolve_left (by omega)
      have e1 := hcc k hlt
      have htk := take_one zs k (by rw [hl.out]; exact hlt)
      have hkz : (k : Int) < (len : Int) := by omega
      have hq0 := (hquo.out k hlt).1
      generalize zs.getD k 0 = z at *
      have hnext : ∀ b' : Bool, (b' = true ↔ bb = true ∨ 0 < z) → (b' = true ↔ ∃ z ∈ zs.take (k + 1), 0 < z) := by
        intro b' h
        rw [h, hbb, htk]
        constructor
        · rintro (⟨y, hy, hn⟩ | h)
          · exact ⟨y, by simp [hy], hn⟩
          · exact ⟨z, by simp, h⟩
        · rintro ⟨y, hy, hn⟩
          rcases List.mem_append.1 hy with h | h
          · exact Or.inl ⟨y, h, hn⟩
          · simp at h; exact Or.inr (by omega)
      replace hnext := Lib.hid hnext
      replace htk := Lib.hid htk
      replace hcc := Lib.hid hcc
      replace hbb := Lib.hid hbb
      have hzn : ¬ z < 0 := by omega
      cases bb with
      | true =>
        go_wp2_with fail
        exact ⟨⟨k + 1, true, by omega, by go_num, rfl, hnext.out true (by simp), by first | rfl | trivial⟩, by simp [intOf]; omega⟩
      | false =>
        by_cases hzp : 0 < z
        · go_wp2_with fail
          exact ⟨⟨k + 1, true, by omega, by go_num, by simp, hnext.out true (by simp [hzp]), by first | rfl | trivial⟩, by simp [intOf]; omega⟩
        · go_wp2_with fail
          exact ⟨⟨k + 1, false, by omega, by go_num, by first | rfl | (simp; done) | (simp; omega), hnext.out false (by simp; omega), by first | rfl | trivial⟩, by simp [intOf]; omega⟩
    · have hkl : zs.take k = zs := List.take_of_length_le (by rw [hl.out]; omega)
      rw [hkl] at hbb
      have hbt : bb = true := hbb.2 hpos.out
      subst hbt
      have hkn : k = len := by omega
      subst hkn
      clear hbb hkl hk hlt
      go_upto_region 13 with (first | (go_at_call 93; (with_reducible refine htot.out.mono ?_); rintro e w1 ⟨v1, rfl, hv1, hb1⟩; obtain ⟨n1, p1, l1, c1, d1, rfl, hv1'⟩ := hv1))
      have hB1 : IsB w1 (.agg #[.bool n1, .slice p1 l1 c1]) (5 + k) S := ⟨n1, p1, l1, c1, d1, rfl, hv1'⟩
      have hA : BigAt (w1.alloc (.cells #[.bool n1, .slice p1 l1 c1] 79)) w1.heap.size 70 S n1 p1 l1 c1 := ⟨BigAt.made w1 n1 p1 l1 c1, (hB1.kept ((Below.refl _ _).alloc (Nat.le_refl _) _)).wide (by omega)⟩
      have hbw : Below w.heap.size w (w1.alloc (.cells #[.bool n1, .slice p1 l1 c1] 79)) := hb1.alloc hb1.size _
      clear hv1' hB1 hb1 htot
      generalize hgW : w1.alloc (Obj.cells #[.bool n1, .slice p1 l1 c1] 79) = W1 at *
      generalize w1.heap.size = b8 at *
      clear hgW
      have hfit := fit_any _ 70 S W1 hA.2 (by omega)
      rw [show fitRV S = S from by unfold fitRV; rw [if_pos ⟨by omega, hS2⟩], show fitRE S = 0 from by unfold fitRE; rw [if_pos ⟨by omega, hS2⟩]] at hfit
      have c80 := hA.c0
      have c81 := hA.c1
      replace hA := Lib.hid hA
      replace hbw := Lib.hid hbw
      go_upto_region 16 with (first | (go_at_call 31; (with_reducible refine hfit.mono ?_); rintro e w2 ⟨rfl, hb2⟩))
      have hR := RSt.start (hbw.out.trans (hb2.mono hbw.out.size)) (hA.out.kept hb2)
      clear hfit c80 c81 hA hbw hb2
      replace hR := Lib.hid hR
      go_upto_region 20 with (fail)
      replace hR := hR.out
      generalize hb13 : w2.heap.size + 1 + 1 = b13 at *
      generalize ((w2.alloc (Obj.cells #[] 2)).alloc (Obj.cells #[] 79)).alloc (Obj.cells #[.bool false, .slice none 0 0] 79) = W3 at *
      clear hb13
      have hmiss0 := missing_nonneg T zs (by rw [hSe.out]; exact hS1)
      have hleft := left_bd T S zs hT0 hS1 hz0.out (by rw [← hSe.out]; exact hmiss0)
      have hstep : ∀ j, j < k → sumL ((quos T S zs).take (j + 1)) = sumL ((quos T S zs).take j) + T * zs.getD j 0 / S := fun j hj => sum_take_quo T S zs j (by rw [hl.out]; exact hj)
      have hqs : ∀ j, j < k → (quos T S zs).take j ++ [T * zs.getD j 0 / S] = (quos T S zs).take (j + 1) := fun j hj => by rw [← take_snoc _ j (by rw [quos_len, hl.out]; exact hj), quos_at]
      have hrs : ∀ j, j < k → (rems T S zs).take j ++ [T * zs.getD j 0 % S] = (rems T S zs).take (j + 1) := fun j hj => by rw [← take_snoc _ j (by rw [rems_len, hl.out]; exact hj), rems_at]
      have hlq : ∀ j, j ≤ k → ((quos T S zs).take j).length = j := fun j hj => by rw [List.length_take, quos_len, hl.out]; omega
      have hlr : ∀ j, j ≤ k → ((rems T S zs).take j).length = j := fun j hj => by rw [List.length_take, rems_len, hl.out]; omega
      replace hmiss0 := Lib.hid hmiss0
      replace hleft := Lib.hid hleft
      replace hstep := Lib.hid hstep
      replace hqs := Lib.hid hqs
      replace hrs := Lib.hid hrs
      replace hlq := Lib.hid hlq
      replace hlr := Lib.hid hlr
      replace hpos := Lib.hid hpos
      go_loopw [11, 12, 14] (fun o lf i wr => ∃ j : Nat, j ≤ k ∧ i = .int .i64 j ∧ RSt w wr b8 b13 S (sumL ((quos T S zs).take j)) o lf ((quos T S zs).take j) ((rems T S zs).take j)) (fun _ _ i _ => k - (intOf i).toNat)
      case atStart => exact ⟨0, by omega, rfl, hR⟩
      case round =>
        clear hR
        obtain ⟨j, hj, rfl, hR⟩ := hrel
        by_cases hlt : j < k
        · obtain ⟨b, off, rfl, hblt, hcc⟩ := hcells.out.resolve_left (by omega)
          have hbel := hR.bel
          have e1 : wr.cell? ⟨b, off + j, none⟩ = some (.int .i64 (zs.getD j 0)) := (hbel.cell (p := ⟨b, off + j, none⟩) hblt).trans (hcc j hlt)
          have hblt' : b < wr.heap.size := Nat.lt_of_lt_of_le hblt hbel.size
          obtain ⟨q0, q1⟩ := hquo.out j hlt
          obtain ⟨z0, z1⟩ := hz.out j
          have hpart := part_bd T (zs.getD j 0) S hT0 q0 q1 hS1
          have hst := hstep.out j hlt
          obtain ⟨l2, l3⟩ := hleft.out (j + 1)
          obtain ⟨l0, l1⟩ := hleft.out j
          have hqj := hqs.out j hlt
          have hrj := hrs.out j hlt
          have hjz : (j : Int) < (k : Int) := by omega
          rw [hst] at l2 l3
          have hrem := rem_eq T (zs.getD j 0) S
          generalize zs.getD j 0 = z at *
          replace hqj := Lib.hid hqj
          replace hrj := Lib.hid hrj
          replace hst := Lib.hid hst
          replace hpart := Lib.hid hpart
          replace hrem := Lib.hid hrem
          replace hR := Lib.hid hR
          have hl2 := Lib.hid l2
          have hl0 := Lib.hid l0
          have hl1 := Lib.hid l1
          clear l0 l1 l2 l3 hcc
          have hD : Hid (Below wr.heap.size wr wr.drew) := (Below.refl _ _).drew
          have hDA : Hid (Below wr.heap.size wr (wr.alloc (Obj.cells #[.bool false, .slice none 0 0] 79)).drew) := ((Below.refl _ _).alloc (Nat.le_refl _) _).drew
          have hxA : Hid (Box (wr.alloc (Obj.cells #[.bool false, .slice none 0 0] 79)).drew wr.heap.size) := Box.made wr false none 0 0
          go_upto_region 22 with (fail)
          go_cut [15] from 69 to 76 (fun s wc => ∃ (b : Nat) (n : Bool) (p : Option Addr) (l c : Nat), s = .pointer (some ⟨b, 0, none⟩) ∧ BigAt wc b 11 (T * z) n p l c ∧ wr.heap.size ≤ b ∧ Below wr.heap.size wr wc)
          case first =>
            go_region_with (first
              | (go_at_call 30; (with_reducible refine (of_any T _ ?_ ?_).mono ?_); omega; omega; rintro e wT ⟨vT, rfl, hvT, hbT⟩
                 have hWT : Hid (Below wr.heap.size wr wT) := by first | exact hD.out.trans (hbT.mono hD.out.size) | exact hDA.out.trans (hbT.mono hDA.out.size) | exact hWZ.out.trans (hbT.mono hWZ.out.size) | exact (hWZ.out.alloc hWZ.out.size _).trans (hbT.mono (hWZ.out.alloc hWZ.out.size _).size)
                 have ezT := (hWT.out.cell (p := ⟨b, off + j, none⟩) hblt').trans e1
                 have hsT := Nat.lt_of_lt_of_le hblt' hWT.out.size
                 try (have hxT : Hid (Box wT wr.heap.size) := hxA.out.stays hbT)
                 try (have hxT : Hid (Box wT _) := hxZ.out.stays hbT)
                 try (have hxT : Hid (Box wT wZ.heap.size) := (Box.made wZ false none 0 0).stays hbT)
                 replace hbT := Lib.hid hbT
                 replace hvT := Lib.hid hvT)
              | (go_at_call 30; (with_reducible refine (of_any z _ ?_ ?_).mono ?_); omega; omega; rintro e wZ ⟨vZ, rfl, hvZ, hbZ⟩
                 have hWZ : Hid (Below wr.heap.size wr wZ) := by first | exact hD.out.trans (hbZ.mono hD.out.size) | exact hDA.out.trans (hbZ.mono hDA.out.size) | exact hWT.out.trans (hbZ.mono hWT.out.size) | exact (hWT.out.alloc hWT.out.size _).trans (hbZ.mono (hWT.out.alloc hWT.out.size _).size)
                 try (have hxZ : Hid (Box wZ wr.heap.size) := hxA.out.stays hbZ)
                 try (have hxZ : Hid (Box wZ _) := hxT.out.stays hbZ)
                 try (have hxZ : Hid (Box wZ wT.heap.size) := (Box.made wT false none 0 0).stays hbZ)
                 replace hbZ := Lib.hid hbZ
                 replace hvZ := Lib.hid hvZ)
              | (go_at_call 94; (with_reducible refine (mulB_any _ _ 5 5 T z _ ?_ ?_ ?_ ?_).mono ?_)
                 · first | exact hvT.out | exact hvT.out.kept hbZ.out | exact (hvT.out.kept ((Below.refl _ _).alloc (Nat.le_refl _) _)).kept hbZ.out | exact hvT.out.kept ((Below.refl _ _).alloc (Nat.le_refl _) _) | exact (hvT.out.kept hbZ.out).kept ((Below.refl _ _).alloc (Nat.le_refl _) _)
                 · first | exact hvZ.out | exact hvZ.out.kept hbT.out | exact (hvZ.out.kept ((Below.refl _ _).alloc (Nat.le_refl _) _)).kept hbT.out | exact hvZ.out.kept ((Below.refl _ _).alloc (Nat.le_refl _) _) | exact (hvZ.out.kept hbT.out).kept ((Below.refl _ _).alloc (Nat.le_refl _) _)
                 · omega
                 · omega
                 rintro e wM ⟨vM, rfl, hvM, hbM⟩
                 obtain ⟨nM, pM, lM, cM, dM, rfl, hvM'⟩ := hvM
                 have hWM : Hid (Below wr.heap.size wr wM) := by first | exact hWZ.out.trans (hbM.mono hWZ.out.size) | exact hWT.out.trans (hbM.mono hWT.out.size) | exact (hWT.out.alloc hWT.out.size _).trans (hbM.mono (hWT.out.alloc hWT.out.size _).size) | exact (hWZ.out.alloc hWZ.out.size _).trans (hbM.mono (hWZ.out.alloc hWZ.out.size _).size)
                 have hM : Hid (IsB wM (.agg #[.bool nM, .slice pM lM cM]) 11 (T * z)) := ⟨nM, pM, lM, cM, dM, rfl, hvM'⟩
                 have hsZ := hWZ.out.size
                 have hsT' := hWT.out.size
                 first
                   | (have hxM := hxT.out.stays hbM; obtain ⟨x, qx, lx, cx, y0, y1, y2, y3⟩ := hxM.cells; replace hxM := Lib.hid hxM)
                   | (have hxM := hxZ.out.stays hbM; obtain ⟨x, qx, lx, cx, y0, y1, y2, y3⟩ := hxM.cells; replace hxM := Lib.hid hxM)
                   | (have hxM := (Box.made wT false none 0 0).stays hbM; obtain ⟨x, qx, lx, cx, y0, y1, y2, y3⟩ := hxM.cells; replace hxM := Lib.hid hxM)
                   | (have hxM := (Box.made wZ false none 0 0).stays hbM; obtain ⟨x, qx, lx, cx, y0, y1, y2, y3⟩ := hxM.cells; replace hxM := Lib.hid hxM)
                   | skip
                 clear hvM' hbM))
            all_goals
              go_wp2_with fail
              go_meet
              first
                | exact ⟨_, nM, pM, lM, cM, rfl, (hxM.out.big hM.out).1, by omega, (hWM.out.setCell (by first | exact Nat.le_refl _ | exact hsT' | exact hsZ) _).setCell (by first | exact Nat.le_refl _ | exact hsT' | exact hsZ) _⟩
                | exact ⟨_, nM, pM, lM, cM, rfl, ⟨BigAt.made wM nM pM lM cM, hM.out.kept ((Below.refl _ _).alloc (Nat.le_refl _) _)⟩, hWM.out.size, hWM.out.alloc hWM.out.size _⟩
          case rest =>
            obtain ⟨b15, n15, p15, l15, c15, rfl, hA15, hlo15, hb15⟩ := hcut
            clear hD hDA hxA e1
            have hlb : Hid (∀ x, u12.ownBlock = some x → x < wr.heap.size) := fun x hx => by
              obtain ⟨bs, el⟩ := hR.out.hleft
              exact (World.ownsRow.lt el.2.1 x hx).2
            have hsw := hb15.size
            have hR1 := hR.out.kept hb15
            obtain ⟨n8, p8, l8, c8, e8⟩ := hR1.s8
            have hdiv := divB_any _ _ 11 70 (T * z) S false wc hA15.2 e8.2 (by omega) (by omega) (by omega)
            rw [show divR (T * z) S false = T * z / S from rfl] at hdiv
            have k0 := hA15.c0
            have k1 := hA15.c1
            have k2 := e8.c0
            have k3 := e8.c1
            replace hR1 := Lib.hid hR1
            replace hA15 := Lib.hid hA15
            clear e8 hR hb15
            go_upto_region 24 with (first | (go_at_call 95; (with_reducible refine hdiv.mono ?_); rintro e w3 ⟨v3, rfl, hv3, hb3⟩; obtain ⟨n16, p16, l16, c16, d16, rfl, hv3'⟩ := hv3))
            clear hdiv k0 k1 k2 k3
            have hI3 : IsB w3 (.agg #[.bool n16, .slice p16 l16 c16]) 17 (T * z / S) := ⟨n16, p16, l16, c16, d16, rfl, hv3'⟩
            have hA16 : BigAt (w3.alloc (.cells #[.bool n16, .slice p16 l16 c16] 79)) w3.heap.size 17 (T * z / S) n16 p16 l16 c16 := ⟨BigAt.made w3 n16 p16 l16 c16, hI3.kept ((Below.refl _ _).alloc (Nat.le_refl _) _)⟩
            have hb4 : Below wc.heap.size wc (w3.alloc (.cells #[.bool n16, .slice p16 l16 c16] 79)) := hb3.alloc hb3.size _
            have hsw3 := Nat.le_trans hsw hb3.size
            clear hv3' hI3 hb3
            generalize w3.alloc (Obj.cells #[.bool n16, .slice p16 l16 c16] 79) = W4 at *
            generalize w3.heap.size = b16 at *
            replace hR1 := hR1.out.kept hb4
            replace hA15 := hA15.out.kept hb4
            obtain ⟨q2, q3, q4, q5, q6⟩ := hpart.out
            have hfit := fit_any _ 17 (T * z / S) W4 hA16.2 (by omega)
            rw [show fitRV (T * z / S) = T * z / S from by unfold fitRV; rw [if_pos ⟨by omega, by omega⟩], show fitRE (T * z / S) = 0 from by unfold fitRE; rw [if_pos ⟨by omega, by omega⟩]] at hfit
            have k0 := hA16.c0
            have k1 := hA16.c1
            replace hR1 := Lib.hid hR1
            replace hA15 := Lib.hid hA15
            replace hA16 := Lib.hid hA16
            have hr0 : Hid (0 ≤ T * z % S ∧ T * z % S < S) := ⟨by omega, by omega⟩
            have hqT : Hid (0 ≤ T * z / S ∧ T * z / S ≤ T) := ⟨q2, q3⟩
            clear q2 q3 q4 q5 q6 hb4
            go_upto_region 25 with (first | (go_at_call 31; (with_reducible refine hfit.mono ?_); rintro e w5 ⟨rfl, hb5⟩))
            clear hfit k0 k1
            replace hR1 := hR1.out.kept hb5
            replace hA15 := hA15.out.kept hb5
            replace hA16 := hA16.out.kept hb5
            have hqn := hlq.out j hj
            obtain ⟨g, c, w6, hrun, hR2, hblk, hk3⟩ := hR1.more (by rw [hqn]; omega) (T * z / S)
            rw [hqj.out] at hR2
            replace hA15 := Lib.hid (hA15.moved (hblk _ _ _ hA15.1) hk3)
            replace hA16 := Lib.hid (hA16.moved (hblk _ _ _ hA16.1) hk3)
            rw [hqn] at hrun hR2
            replace hrun := Lib.hid hrun
            replace hR2 := Lib.hid hR2
            clear hblk hk3 hR1 hb5
            go_upto_region 26 with (at_builtin; refine wpList_app rfl _ _ _ _ rfl _ _ _ _ rfl rfl hrun.out ?_)
            clear hrun
            have hrn := hlr.out j hj
            obtain ⟨n8, p8, l8, c8, e8⟩ := hR2.out.s8
            have k0 := hA15.out.c0
            have k1 := hA15.out.c1
            have k2 := e8.c0
            have k3 := e8.c1
            have k4 := hA16.out.c0
            have k5 := hA16.out.c1
            replace e8 := Lib.hid e8
            replace hrn := Lib.hid hrn
            go_cut [12] from 89 to 97 (fun s wc' => ∃ gl cl, s = .slice (some ⟨gl, 0, none⟩) (j + 1) cl ∧ RSt w wc' b8 b13 S (sumL ((quos T S zs).take j)) (.slice (some ⟨g, 0, none⟩) (j + 1) c) s ((quos T S zs).take (j + 1)) ((rems T S zs).take (j + 1)) ∧ BigAt wc' b16 17 (T * z / S) n16 p16 l16 c16)
            case first =>
              go_region_law (first
                | (refine step_app rfl _ _ _ _ rfl _ _ _ _ rfl rfl hrunL.out ?_)
                | (go_simp; go_at_call 94; (with_reducible refine (mulB_any _ _ 17 70 (T * z / S) S _ ?_ ?_ ?_ ?_).mono ?_)
                   · exact hA16.out.2
                   · exact e8.out.2
                   · omega
                   · omega
                   rintro e wM ⟨vM, rfl, hvM, hbM⟩
                   have hWM := undrew hbM
                   have hAM := hA15.out.kept hWM
                   have m0 := hAM.c0
                   have m1 := hAM.c1
                   replace hvM := Lib.hid hvM
                   replace hWM := Lib.hid hWM
                   clear hAM hbM)
                | (go_simp; go_at_call 78; (with_reducible refine (turned_any _ 88 (T * z / S * S) _ ?_ ?_).mono ?_)
                   · exact hvM.out
                   · omega
                   rintro e wN ⟨vN, rfl, hvN, hbN⟩
                   have hWN := hWM.out.trans (hbN.mono hWM.out.size)
                   have hAN := hA15.out.kept hWN
                   have m2 := hAN.c0
                   have m3 := hAN.c1
                   replace hvN := Lib.hid hvN
                   replace hWN := Lib.hid hWN
                   clear hAN hbN)
                | (go_simp; go_at_call 29; (with_reducible refine (addB_any _ _ 88 (T * z) (-(T * z / S * S)) _ ?_ ?_ ?_).mono ?_)
                   · exact (hA15.out.kept hWN.out).2.wide (by omega)
                   · exact hvN.out
                   · omega
                   rintro e wP ⟨vP, rfl, hvP, hbP⟩
                   obtain ⟨nP, pP, lP, cP, dP, rfl, hvP'⟩ := hvP
                   have hIP : IsB wP (.agg #[.bool nP, .slice pP lP cP]) 89 (T * z + -(T * z / S * S)) := ⟨nP, pP, lP, cP, dP, rfl, hvP'⟩
                   rw [hrem.out] at hIP
                   have hWP := hWN.out.trans (hbP.mono hWN.out.size)
                   have hRP := hR2.out.kept hWP
                   have hAP := hA16.out.kept hWP
                   obtain ⟨gl, cl, wL, hrunL, hRL, hblkL, hkL⟩ := hRP.moreLeft (by rw [hrn.out]; omega) nP pP lP cP (T * z % S) ((hIP.short hr0.out.1 (m := 5) (Int.lt_trans hr0.out.2 (small_pw S hS2))).wide (by omega))
                   rw [hrj.out] at hRL
                   rw [hrn.out] at hrunL hRL
                   have hAL := Lib.hid (hAP.moved (hblkL _ (fun e => by have := hlb.out _ e; omega) hAP.lt) hkL)
                   replace hrunL := Lib.hid hrunL
                   replace hRL := Lib.hid hRL
                   clear hvP' hIP hWP hRP hAP hblkL hkL hbP))
              all_goals
                go_wp2_with fail
                go_meet
                exact ⟨gl, cl, rfl, hRL.out, hAL.out⟩
            case rest =>
              clear k0 k1 k2 k3 k4 k5 e8 hA15 hA16 hR2 hlb hrn
              obtain ⟨gl, cl, rfl, hR3, hA16⟩ := hcut
              obtain ⟨n13, p13, l13, c13, e13⟩ := hR3.s13
              have hadd := addB_any _ _ 17 (sumL ((quos T S zs).take j)) (T * z / S) wc (e13.2.wide (by omega)) hA16.2 (by omega)
              have k0 := e13.c0
              have k1 := e13.c1
              have k2 := hA16.c0
              have k3 := hA16.c1
              replace hR3 := Lib.hid hR3
              replace e13 := Lib.hid e13
              replace hA16 := Lib.hid hA16
              go_wp2_with (first | (go_at_call 29; (with_reducible refine hadd.mono ?_); rintro e w7 ⟨v7, rfl, hv7, hb7⟩; obtain ⟨n7, p7, l7, c7, d7, rfl, hv7'⟩ := hv7
                                    have hI7 : Hid (IsB w7 (.agg #[.bool n7, .slice p7 l7 c7]) 18 (sumL ((quos T S zs).take j) + T * z / S)) := ⟨n7, p7, l7, c7, d7, rfl, hv7'⟩
                                    have e7 := e13.out.kept hb7; have y0 := e7.c0; have y1 := e7.c1; have f0 := e7.f (i := 0); have f1 := e7.f (i := 1)
                                    have hR4 := Lib.hid (hR3.out.kept hb7); clear e7 hb7 hv7' k0 k1 k2 k3))
              go_roundw
              case rel =>
                refine ⟨j + 1, by omega, by go_num, ?_⟩
                rw [hst.out]
                have a2 := hl2.out
                have a1 := hl1.out
                have a3 := hqT.out.1
                exact (hR4.out.put ((hI7.out.short (m := 5) (by omega) (Int.lt_of_le_of_lt (by omega) (small_pw T hT1))).wide (by omega))).1
              case measure => simp [intOf]; omega
        · have hjk : k = j := by omega
          subst hjk
          clear hlt hj
          have hk1 : 1 ≤ k := by
            rcases Nat.eq_zero_or_pos k with h0 | h0
            · have e0 : zs = [] := List.length_eq_zero_iff.1 (by rw [hl.out]; exact h0)
              have := hSe.out
              rw [e0] at this
              simp [sumL] at this
              omega
            · exact h0
          have eq1 : (quos T S zs).take k = quos T S zs := List.take_of_length_le (by rw [quos_len, hl.out]; exact Nat.le_refl _)
          have eq2 : (rems T S zs).take k = rems T S zs := List.take_of_length_le (by rw [rems_len, hl.out]; exact Nat.le_refl _)
          have eq3 : (quos T S zs).length = k := by rw [quos_len, hl.out]
          have eq4 : (rems T S zs).length = k := by rw [rems_len, hl.out]
          rw [eq1, eq2] at hR
          obtain ⟨L, hp, hs⟩ := order_exists (fun i => (rems T S zs).getD i 0) k
          have hmiss1 := missing_le T zs (by rw [hSe.out]; exact hS1)
          obtain ⟨mk, hmk⟩ := Int.eq_ofNat_of_zero_le hmiss0.out
          rw [hmk, hl.out] at hmiss1
          have hQ : sumL (quos T S zs) + mk = T := by
            have := hmk
            rw [hSe.out] at this
            unfold missing at this
            omega
          have hgz := given_zero T zs L
          rw [hSe.out] at hgz
          obtain ⟨go, co, rfl⟩ := hR.formOut (by rw [eq3]; exact hk1)
          obtain ⟨gl, cl, rfl⟩ := hR.formLeft (by rw [eq4]; exact hk1)
          rw [eq3, eq4] at hR
          have hfl := Flags.made wr w.heap.size k hR.bel.size (by omega) L
          have hR5 := hR.kept ((Below.refl wr.heap.size wr).alloc (Nat.le_refl _) (Obj.cells (nos k) 4))
          have hR6 : RSt w (wr.alloc (Obj.cells (nos k) 4)) b8 b13 S (sumL (quos T S zs) + ((0 : Nat) : Int)) (.slice (some ⟨go, 0, none⟩) k co) (.slice (some ⟨gl, 0, none⟩) k cl) (given T zs L 0) (rems T S zs) := by
            rw [hgz]
            simpa using hR5
          clear hR5
          have hR5 := hR6
          clear hR6
          rw [eq3, eq4]
          have mk52 := make52 k (by omega)
          have hgall := given_all T zs L (by rw [hl.out]; exact hp) (by rw [hSe.out]; exact hs) mk hmk.symm
          have hgst := given_step T zs L (by rw [hl.out]; exact hp)
          rw [hSe.out] at hgst
          have hamt : ∀ i, Amt ((shares T zs).getD i 0) := shares_amt T zs hT0 ⟨by omega, hT1⟩ (by rw [hSe.out]; exact hS1) hz0.out
          have hqlt : 1 ≤ mk → ∀ i, T * zs.getD i 0 / S + 1 ≤ T := fun h i => by
            have := quo_lt T zs hT0 (by rw [hSe.out]; exact hS1) hz0.out i (by rw [hmk]; omega)
            rwa [hSe.out] at this
          replace hp := Lib.hid hp
          replace hs := Lib.hid hs
          replace hmk := Lib.hid hmk
          replace hQ := Lib.hid hQ
          replace hgall := Lib.hid hgall
          replace hgst := Lib.hid hgst
          replace hamt := Lib.hid hamt
          replace hqlt := Lib.hid hqlt
          replace hR5 := Lib.hid hR5
          replace hfl := Lib.hid hfl
          replace eq3 := Lib.hid eq3
          replace eq4 := Lib.hid eq4
          clear eq1 eq2 hR hgz
          go_upto_region 29 with (fail)
          clear mk52
          replace hR5 := hR5.out
          replace hfl := hfl.out
          generalize wr.alloc (Obj.cells (nos k) 4) = W5 at *
          generalize wr.heap.size = gm at *
          go_loopg [] mk (fun gk wv => ∃ t : Nat, gk + t = mk ∧ RSt w wv b8 b13 S (sumL (quos T S zs) + t) (.slice (some ⟨go, 0, none⟩) k co) (.slice (some ⟨gl, 0, none⟩) k cl) (given T zs L t) (rems T S zs) ∧ Flags wv w.heap.size gm k (flagsOf L k t))
          case atStart => exact ⟨0, by omega, hR5, hfl⟩
          case round =>
            clear hR5 hfl
            obtain ⟨t, ht, hR, hfl⟩ := hrel
            have hgl : (given T zs L t).length = k := by rw [given_len, hl.out]
            have hgoK : go < wr.heap.size := (World.ownsRow.lt hR.hout go rfl).2
            obtain ⟨n13, p13, l13, c13, e13⟩ := hR.s13
            have k0 := e13.c0
            have k1 := e13.c1
            have hc0 : Hid (wr.cell? ⟨b13, 0, none⟩ = some (.bool n13) ∧ wr.cell? ⟨b13, 1, none⟩ = some (.slice p13 l13 c13)) := ⟨k0, k1⟩
            replace hgl := Lib.hid hgl
            by_cases hlt : t < mk
            · have hcmp : cmp3 (sumL (quos T S zs) + t) T = -1 := by
                have := hQ.out
                unfold cmp3
                rw [if_neg (by omega), if_pos (by omega)]
              replace hcmp := Lib.hid hcmp
              replace hR := Lib.hid hR
              replace hfl := Lib.hid hfl
              replace e13 := Lib.hid e13
              go_upto_region 29 with (fail)
              go_region_held3 (fun w' => w'.cell? ⟨b13, 0, none⟩ = some (.bool n13) ∧ w'.cell? ⟨b13, 1, none⟩ = some (.slice p13 l13 c13))
                (first | exact hc0.out | exact hc1.out | exact hc2.out)
                (first
                  | (go_at_call 30; (with_reducible refine (of_any T _ ?_ ?_).mono ?_); omega; omega; rintro e wT ⟨vT, rfl, hvT, hbT⟩; have hW1 := undrew hbT; have eT := e13.out.kept hW1
                     have hc1 : Hid (wT.cell? ⟨b13, 0, none⟩ = some (.bool n13) ∧ wT.cell? ⟨b13, 1, none⟩ = some (.slice p13 l13 c13)) := ⟨eT.c0, eT.c1⟩
                     replace hvT := Lib.hid hvT; replace hW1 := Lib.hid hW1; replace eT := Lib.hid eT; clear hbT)
                  | (go_at_call 59; (with_reducible refine (cmp_any _ _ 6 (sumL (quos T S zs) + t) T _ ?_ ?_ ?_).mono ?_); exact eT.out.2; exact hvT.out.wide (by omega); omega; rintro e wC ⟨rfl, hbC⟩; rw [hcmp.out]
                     have hWC := hW1.out.trans (hbC.mono hW1.out.size); have eC := e13.out.kept hWC
                     have hc2 : Hid (wC.cell? ⟨b13, 0, none⟩ = some (.bool n13) ∧ wC.cell? ⟨b13, 1, none⟩ = some (.slice p13 l13 c13)) := ⟨eC.c0, eC.c1⟩
                     replace hWC := Lib.hid hWC; clear hbC eC))
              have hR6 := hR.out.kept hWC.out
              have hfl6 := hfl.out.moved (hWC.out.block gm hfl.out.lt.2)
              clear hc0 hc1 hc2 k0 k1 hvT hW1 eT hWC e13 hR hfl hgoK
              go_upto_region 32 with (fail)
              go_loopw [20, 21] (fun at_ i wv => ∃ (n : Nat) (v : Int), n ≤ k ∧ i = .int .i64 n ∧ at_ = .int .i64 v ∧ Best (fun i => (rems T S zs).getD i 0) (L.take t) n v ∧ RSt w wv b8 b13 S (sumL (quos T S zs) + t) (.slice (some ⟨go, 0, none⟩) k co) (.slice (some ⟨gl, 0, none⟩) k cl) (given T zs L t) (rems T S zs) ∧ Flags wv w.heap.size gm k (flagsOf L k t)) (fun _ i _ => k - (intOf i).toNat)
              case atStart => exact ⟨0, -1, by omega, rfl, rfl, Best.zero _ _, hR6, hfl6⟩
              case round =>
                clear hR6 hfl6
                obtain ⟨n, v, hn, rfl, rfl, hbest, hR, hfl⟩ := hrel
                by_cases hlt2 : n < k
                · have hnz : (n : Int) < (k : Int) := by omega
                  have cf := hfl.cell hlt2
                  rw [flagsOf_at L k t n hlt2] at cf
                  have hD : Hid (Below wr.heap.size wr wr.drew) := (Below.refl _ _).drew
                  by_cases hin : n ∈ L.take t
                  · rw [decide_eq_true hin] at cf
                    have hb2 := Lib.hid (hbest.skip hin)
                    replace hR := Lib.hid hR
                    replace hfl := Lib.hid hfl
                    replace hin := Lib.hid hin
                    clear hbest
                    go_upto_region 34 with (fail)
                    go_quiet (fail)
                    go_wp2_with fail
                    go_roundw
                    case rel => exact ⟨n + 1, v, by omega, by go_num, rfl, hb2.out, by first | exact hR.out | exact hR.out.kept (below_drawn wr _), by first | exact hfl.out | exact hfl.out.moved rfl⟩
                    case measure => simp [intOf]; omega
                  · rw [decide_eq_false hin] at cf
                    rcases id hbest with ⟨rfl, _⟩ | ⟨a, rfl, ha1, _, _⟩
                    · have hb2 := Lib.hid (hbest.first hin)
                      replace hR := Lib.hid hR
                      replace hfl := Lib.hid hfl
                      replace hin := Lib.hid hin
                      clear hbest
                      go_upto_region 34 with (fail)
                      go_quiet (fail)
                      go_wp2_with fail
                      go_roundw
                      case rel => exact ⟨n + 1, n, by omega, by go_num, rfl, hb2.out, by first | exact hR.out | exact hR.out.kept (below_drawn wr _), by first | exact hfl.out | exact hfl.out.moved rfl⟩
                      case measure => simp [intOf]; omega
                    · have haz : (a : Int) < (n : Int) := by omega
                      have hak : (a : Int) < (k : Int) := by omega
                      have ha0 : ¬ (a : Int) < 0 := by omega
                      obtain ⟨bs, el⟩ := hR.hleft
                      have el2 := el
                      rw [← eq4.out] at el2
                      obtain ⟨nn, pn, ln, cn, x0, x1, hIn⟩ := el2.at (i := n) (by rw [eq4.out]; omega)
                      obtain ⟨na, pa, la, ca, x2, x3, hIa⟩ := el2.at (i := a) (by rw [eq4.out]; omega)
                      obtain ⟨cv, hcv⟩ : ∃ cv, cmp3 ((rems T S zs).getD n 0) ((rems T S zs).getD a 0) = cv := ⟨_, rfl⟩
                      have hcon := fun X (hX : Below wr.heap.size wr X) => cmp_any _ _ 20 _ _ X (hIn.kept hX) (hIa.kept hX) (by omega)
                      rw [hcv] at hcon
                      have hcp := cmp3_pos ((rems T S zs).getD n 0) ((rems T S zs).getD a 0)
                      rw [hcv] at hcp
                      replace hcon := Lib.hid hcon
                      have hx0 : Hid (wr.cell? ⟨gm, n, none⟩ = some (.bool false) ∧ wr.cell? ⟨gl, n * 2, none⟩ = some (.bool nn) ∧ wr.cell? ⟨gl, n * 2 + 1, none⟩ = some (.slice pn ln cn) ∧ wr.cell? ⟨gl, a * 2, none⟩ = some (.bool na) ∧ wr.cell? ⟨gl, a * 2 + 1, none⟩ = some (.slice pa la ca)) := ⟨cf, x0, x1, x2, x3⟩
                      have hlgl := (World.ownsRow.lt el.2.1 gl rfl).2
                      have hlgm := hfl.lt.2
                      have hb2 : Hid (0 < cv → Best (fun i => (rems T S zs).getD i 0) (L.take t) (n + 1) n) := fun h => hbest.better hin (hcp.1 h)
                      have hb3 : Hid (¬ 0 < cv → Best (fun i => (rems T S zs).getD i 0) (L.take t) (n + 1) a) := fun h => hbest.worse (fun hc => h (hcp.2 hc))
                      replace hR := Lib.hid hR
                      replace hfl := Lib.hid hfl
                      replace hin := Lib.hid hin
                      clear hbest hcp hcv hIn hIa el el2
                      go_upto_region 34 with (fail)
                      go_region_held3 (fun w' => w'.cell? ⟨gm, n, none⟩ = some (.bool false) ∧ w'.cell? ⟨gl, n * 2, none⟩ = some (.bool nn) ∧ w'.cell? ⟨gl, n * 2 + 1, none⟩ = some (.slice pn ln cn) ∧ w'.cell? ⟨gl, a * 2, none⟩ = some (.bool na) ∧ w'.cell? ⟨gl, a * 2 + 1, none⟩ = some (.slice pa la ca))
                        (first | exact hx0.out | exact hx1.out)
                        (first
                          | (go_at_call 59; (with_reducible refine (hcon.out _ ?_).mono ?_); exact hD.out; rintro e wC ⟨rfl, hbC⟩
                             have hWC := undrew hbC
                             have hx1 : Hid (wC.cell? ⟨gm, n, none⟩ = some (.bool false) ∧ wC.cell? ⟨gl, n * 2, none⟩ = some (.bool nn) ∧ wC.cell? ⟨gl, n * 2 + 1, none⟩ = some (.slice pn ln cn) ∧ wC.cell? ⟨gl, a * 2, none⟩ = some (.bool na) ∧ wC.cell? ⟨gl, a * 2 + 1, none⟩ = some (.slice pa la ca)) :=
                               ⟨(hWC.cell (p := ⟨gm, n, none⟩) hlgm).trans hx0.out.1, (hWC.cell (p := ⟨gl, n * 2, none⟩) hlgl).trans hx0.out.2.1, (hWC.cell (p := ⟨gl, n * 2 + 1, none⟩) hlgl).trans hx0.out.2.2.1, (hWC.cell (p := ⟨gl, a * 2, none⟩) hlgl).trans hx0.out.2.2.2.1, (hWC.cell (p := ⟨gl, a * 2 + 1, none⟩) hlgl).trans hx0.out.2.2.2.2⟩
                             replace hWC := Lib.hid hWC; clear hbC)
                          | skip)
                      clear cf x0 x1 x2 x3 hx0 hx1
                      by_cases hcc : 0 < cv
                      · go_wp2_with fail
                        go_roundw
                        case rel => exact ⟨n + 1, n, by omega, by go_num, rfl, hb2.out hcc, hR.out.kept hWC.out, hfl.out.moved (hWC.out.block gm hfl.out.lt.2)⟩
                        case measure => simp [intOf]; omega
                      · go_wp2_with fail
                        go_roundw
                        case rel => exact ⟨n + 1, a, by omega, by go_num, rfl, hb3.out (by omega), hR.out.kept hWC.out, hfl.out.moved (hWC.out.block gm hfl.out.lt.2)⟩
                        case measure => simp [intOf]; omega
                · have hnk : k = n := by omega
                  subst hnk
                  clear hlt2 hn
                  obtain ⟨a, rfl, hLk⟩ := hbest.done hp.out hs.out (by omega)
                  obtain ⟨g1, g2, g4⟩ := hgst.out t a hLk
                  rw [hl.out] at g2
                  have hak : (a : Int) < (k : Int) := by omega
                  have hql := hqlt.out (by omega) a
                  obtain ⟨n0, n1⟩ := hquo.out a g2
                  have q0 : 0 ≤ T * zs.getD a 0 / S := Int.ediv_nonneg (Int.mul_nonneg hT0 n0) (by omega)
                  have hfl2 := hfl.set (i := a) true
                  rw [flagsOf_step L k t a hLk] at hfl2
                  have hR2 := hR.flag hfl (i := a) true
                  have hoc : wr.cell? ⟨go, a, none⟩ = some (.int .i64 (T * zs.getD a 0 / S)) := by
                    have ho := hR.hout
                    unfold Grows at ho
                    rw [hgl.out] at ho
                    rw [World.ownsRow.cellAt ho a (by omega), List.getElem?_map, List.getElem?_eq_getElem (by rw [hgl.out]; exact g2), ← g4, List.getD_eq_getElem?_getD, List.getElem?_eq_getElem (by rw [hgl.out]; exact g2)]
                    rfl
                  have hof : wr.frozen? ⟨go, a, none⟩ = false := by
                    have ho := hR.hout
                    unfold Grows at ho
                    rw [hgl.out] at ho
                    exact World.ownsRow.frozenAt ho a
                  have hfc := hfl.cell g2
                  have hff : wr.frozen? ⟨gm, a, none⟩ = false := World.ownsRow.frozenAt hfl a
                  have hne : go ≠ gm := by
                    obtain ⟨cur, e2⟩ := hR.hout.is2 go rfl
                    obtain ⟨cur', e4⟩ := hfl.is4
                    exact ne_block e2 e4 (by decide)
                  have hne' : gm ≠ go := fun e => hne e.symm
                  rw [← hgl.out] at hR2
                  obtain ⟨hR3, ho3⟩ := hR2.bump (i := a) (len := k) (T * zs.getD a 0 / S + 1)
                  rw [hgl.out] at hR3
                  have hfl3 := hfl2.moved (ho3 gm hne')
                  rw [g4] at g1
                  rw [g1] at hR3
                  generalize T * zs.getD a 0 / S = qa at *
                  generalize (flagsOf L k t).getD a false = fa at *
                  replace hR3 := Lib.hid hR3
                  replace hfl3 := Lib.hid hfl3
                  clear hbest hR hfl hfl2 hR2 ho3 g1 g4 hLk n0 n1
                  go_upto_region 38 with (fail)
                  replace hR3 := hR3.out
                  replace hfl3 := hfl3.out
                  generalize ((wr.setCell ⟨gm, a, none⟩ (.bool true)).setCell ⟨go, a, none⟩ (.int .i64 (qa + 1))) = W7 at *
                  clear hoc hof hfc hff hne hne'
                  obtain ⟨n13, p13, l13, c13, e13⟩ := hR3.s13
                  have k0 := e13.c0
                  have k1 := e13.c1
                  have hlo := hR3.lo13
                  replace hR3 := Lib.hid hR3
                  replace hfl3 := Lib.hid hfl3
                  replace e13 := Lib.hid e13
                  go_region_with (first
                    | (go_at_call 30; (with_reducible refine (of_any 1 _ ?_ ?_).mono ?_); decide; decide; rintro e wT ⟨vT, rfl, hvT, hbT⟩; have hW1 := undrew hbT; have eT := e13.out.kept hW1; have m0 := eT.c0; have m1 := eT.c1; replace eT := Lib.hid eT; replace hvT := Lib.hid hvT; replace hW1 := Lib.hid hW1; clear hbT)
                    | (go_at_call 29; (with_reducible refine (addB_any _ _ 6 (sumL (quos T S zs) + t) 1 _ ?_ ?_ ?_).mono ?_); exact eT.out.2; exact hvT.out.wide (by omega); omega; rintro e wA ⟨vA, rfl, hvA, hbA⟩; obtain ⟨nA, pA, lA, cA, dA, rfl, hvA'⟩ := hvA
                       have hIA : Hid (IsB wA (.agg #[.bool nA, .slice pA lA cA]) 7 (sumL (quos T S zs) + t + 1)) := ⟨nA, pA, lA, cA, dA, rfl, hvA'⟩
                       have hWA := hW1.out.trans (hbA.mono hW1.out.size); have eA := e13.out.kept hWA; have y0 := eA.c0; have y1 := eA.c1; have f0 := eA.f (i := 0); have f1 := eA.f (i := 1); replace hWA := Lib.hid hWA; clear hbA hvA' eA))
                  all_goals
                    go_wp2_with fail
                    go_roundg (mk - (t + 1))
                    case measure => omega
                    case rel =>
                      have hq := hQ.out
                      have hq0 : 0 ≤ sumL (quos T S zs) := sum_nonneg (quos_nonneg T S hT0 hS1 zs hz0.out)
                      have hput := (hR3.out.kept hWA.out).put ((hIA.out.short (m := 5) (by omega) (Int.lt_of_le_of_lt (by omega) (small_pw T hT1))).wide (by omega))
                      refine ⟨t + 1, by omega, ?_, (hfl3.out.moved (hWA.out.block gm hfl3.out.lt.2)).moved (hput.2 gm (by
                        obtain ⟨cur', e4⟩ := hfl3.out.is4
                        exact ne_block e4 e13.out.1 (by decide)))⟩
                      rw [show sumL (quos T S zs) + ((t + 1 : Nat) : Int) = sumL (quos T S zs) + t + 1 from by omega]
                      exact hput.1
            · have htk : mk = t := by omega
              subst htk
              have hcmp : cmp3 (sumL (quos T S zs) + mk) T = 0 := by
                have := hQ.out
                unfold cmp3
                rw [if_neg (by omega), if_neg (by omega)]
              replace hcmp := Lib.hid hcmp
              replace hR := Lib.hid hR
              replace e13 := Lib.hid e13
              clear hfl
              go_upto_region 29 with (fail)
              go_region_held3 (fun w' => w'.cell? ⟨b13, 0, none⟩ = some (.bool n13) ∧ w'.cell? ⟨b13, 1, none⟩ = some (.slice p13 l13 c13))
                (first | exact hc0.out | exact hc1.out | exact hc2.out)
                (first
                  | (go_at_call 30; (with_reducible refine (of_any T _ ?_ ?_).mono ?_); omega; omega; rintro e wT ⟨vT, rfl, hvT, hbT⟩; have hW1 := undrew hbT; have eT := e13.out.kept hW1
                     have hc1 : Hid (wT.cell? ⟨b13, 0, none⟩ = some (.bool n13) ∧ wT.cell? ⟨b13, 1, none⟩ = some (.slice p13 l13 c13)) := ⟨eT.c0, eT.c1⟩
                     replace hvT := Lib.hid hvT; replace hW1 := Lib.hid hW1; replace eT := Lib.hid eT; clear hbT)
                  | (go_at_call 59; (with_reducible refine (cmp_any _ _ 6 (sumL (quos T S zs) + mk) T _ ?_ ?_ ?_).mono ?_); exact eT.out.2; exact hvT.out.wide (by omega); omega; rintro e wC ⟨rfl, hbC⟩; rw [hcmp.out]
                     have hWC := hW1.out.trans (hbC.mono hW1.out.size); have eC := e13.out.kept hWC
                     have hc2 : Hid (wC.cell? ⟨b13, 0, none⟩ = some (.bool n13) ∧ wC.cell? ⟨b13, 1, none⟩ = some (.slice p13 l13 c13)) := ⟨eC.c0, eC.c1⟩
                     replace hWC := Lib.hid hWC; clear hbC eC))
              have hR6 := hR.out.kept hWC.out
              rw [hgall.out] at hR6
              have hl' := shares_len T zs
              obtain ⟨p', cap', ep, hseq⟩ := hR6.hout.seq hamt.out (by rw [hl', hl.out]; omega)
              rw [hl', hl.out] at ep hseq
              have hfin : Hid (Below w.heap.size w wC ∧ ∃ p cap, Value.slice (some ⟨go, 0, none⟩) k co = .slice p k cap ∧ Seq64 wC p k (shares T zs)) := ⟨hR6.bel, p', cap', ep, hseq⟩
              clear hc0 hc1 hc2 k0 k1 hvT hW1 eT hWC e13 hR hgoK hR6 hseq ep
              go_wp2_with fail
              go_ret2
              obtain ⟨h1, pp, cc, ee, h2⟩ := hfin.out
              refine ⟨h1, pp, cc, ?_, ?_⟩
              · rw [hl.out, ← ee]; rfl
              · rw [hl.out]; exact h2

theorem sum_zero {l : List Int} (h0 : ∀ z ∈ l, 0 ≤ z) (hn : ¬ ∃ z ∈ l, 0 < z) : sumL l = 0 := by
  have h1 := sum_nonneg h0
  rcases Int.lt_or_eq_of_le h1 with h | h
  · exact absurd (exists_pos h0 (by omega)) hn
  · exact h.symm

set_option maxHeartbeats 4000000 in
set_option maxRecDepth 100000 in
theorem sharesR_err (T : Int) (p : Option Addr) (len cap : Nat) (zs : List Int) (w : World) (hT : Amt T) (hs : Seq64 w p len zs) (hE : shE T zs ≠ 0) :
    Calls Tryz.prog 68 #[.int .i64 T, .slice p len cap] w fun e w' => Below w.heap.size w w' ∧ e = .returned (.tuple #[.slice none 0 0, .int .i64 (shE T zs)]) := by
  obtain ⟨hT0, hT1⟩ := hT
  by_cases h64 : 64 < len
  · have h64z : (64 : Int) < (len : Int) := by omega
    have hc : shE T zs = 4 := by
      have hc : chk T zs = 4 := by unfold chk; rw [if_pos (by rw [hs.1]; exact h64)]
      unfold shE; rw [hc, if_pos (by decide)]
    replace hc := Lib.hid hc
    clear hs hE
    go_enter Tryz.func68, Tryz.ntmps68
    go_wp2_with fail
    go_ret2
    exact ⟨Below.refl _ _, by rw [hc.out]; rfl⟩
  · have h64z : ¬ (64 : Int) < (len : Int) := by omega
    have htot := total_any p len cap zs w hs (by omega)
    obtain ⟨hl, hz, hm, hcells⟩ := hs
    replace hl := Lib.hid hl
    replace hz := Lib.hid hz
    replace hcells := Lib.hid hcells
    replace htot := Lib.hid htot
    replace hE := Lib.hid hE
    go_enter Tryz.func68, Tryz.ntmps68
    go_upto_region 5 with (fail)
    go_loopw [6, 7] (fun sm i wr => ∃ (k : Nat) (bb : Bool), k ≤ len ∧ i = .int .i64 k ∧ sm = .bool bb ∧ (bb = true ↔ ∃ z ∈ zs.take k, 0 < z) ∧ (∀ z ∈ zs.take k, 0 ≤ z) ∧ wr = w) (fun _ i _ => len - (intOf i).toNat)
    case atStart => exact ⟨0, false, by omega, rfl, rfl, by simp, by simp, rfl⟩
    case round =>
      obtain ⟨k, bb, hk, rfl, rfl, hbb, hnn, hww⟩ := hrel
      replace hww := hww.symm
      subst hww
      by_cases hlt : k < len
      · obtain ⟨b, off, rfl, hblt, hcc⟩ := hcells.out.resolve_left (by omega)
        have e1 := hcc k hlt
        have htk := take_one zs k (by rw [hl.out]; exact hlt)
        have hkz : (k : Int) < (len : Int) := by omega
        have hmem : zs.getD k 0 ∈ zs := by rw [List.getD_eq_getElem?_getD, List.getElem?_eq_getElem (by rw [hl.out]; exact hlt)]; exact List.getElem_mem _
        obtain ⟨z0, z1⟩ := hz.out k
        generalize zs.getD k 0 = z at *
        have hnext : ∀ b' : Bool, (b' = true ↔ bb = true ∨ 0 < z) → (b' = true ↔ ∃ z ∈ zs.take (k + 1), 0 < z) := by
          intro b' h
          rw [h, hbb, htk]
          constructor
          · rintro (⟨y, hy, hn⟩ | h)
            · exact ⟨y, by simp [hy], hn⟩
            · exact ⟨z, by simp, h⟩
          · rintro ⟨y, hy, hn⟩
            rcases List.mem_append.1 hy with h | h
            · exact Or.inl ⟨y, h, hn⟩
            · simp at h; exact Or.inr (by omega)
        have hnn2 : ¬ z < 0 → ∀ y ∈ zs.take (k + 1), 0 ≤ y := fun h y hy => by
          rw [htk] at hy
          rcases List.mem_append.1 hy with h' | h'
          · exact hnn y h'
          · simp at h'; omega
        replace hnext := Lib.hid hnext
        replace hnn2 := Lib.hid hnn2
        replace hnn := Lib.hid hnn
        replace htk := Lib.hid htk
        replace hcc := Lib.hid hcc
        replace hbb := Lib.hid hbb
        replace hmem := Lib.hid hmem
        by_cases hzn : z < 0
        · have hc : shE T zs = 1 := by
            have hc : chk T zs = 1 := by
              unfold chk
              rw [if_neg (by rw [hl.out]; omega)]
              by_cases hneg : T < 0
              · rw [if_pos hneg]
              · rw [if_neg hneg, if_pos ⟨z, hmem.out, hzn⟩]
            unfold shE; rw [hc, if_pos (by decide)]
          replace hc := Lib.hid hc
          go_wp2_with fail
          go_ret2
          exact ⟨Below.refl _ _, by rw [hc.out]; rfl⟩
        · replace hnn2 := Lib.hid (hnn2.out hzn)
          cases bb with
          | true =>
            go_wp2_with fail
            exact ⟨⟨k + 1, true, by omega, by go_num, rfl, hnext.out true (by simp), hnn2.out, by first | rfl | trivial⟩, by simp [intOf]; omega⟩
          | false =>
            by_cases hzp : 0 < z
            · go_wp2_with fail
              exact ⟨⟨k + 1, true, by omega, by go_num, by simp, hnext.out true (by simp [hzp]), hnn2.out, by first | rfl | trivial⟩, by simp [intOf]; omega⟩
            · go_wp2_with fail
              exact ⟨⟨k + 1, false, by omega, by go_num, by first | rfl | (simp; done) | (simp; omega), hnext.out false (by simp; omega), hnn2.out, by first | rfl | trivial⟩, by simp [intOf]; omega⟩
      · have hkl : zs.take k = zs := List.take_of_length_le (by rw [hl.out]; omega)
        rw [hkl] at hbb hnn
        have hno : ¬ ∃ z ∈ zs, z < 0 := by
          rintro ⟨z, hzm, hz0⟩
          have := hnn z hzm
          omega
        have hkn : k = len := by omega
        subst hkn
        by_cases hneg : T < 0
        · have hc : shE T zs = 1 := by
            have hc : chk T zs = 1 := by
              unfold chk
              rw [if_neg (by rw [hl.out]; omega), if_pos hneg]
            unfold shE; rw [hc, if_pos (by decide)]
          replace hc := Lib.hid hc
          clear hbb hnn hno hkl hk hlt
          cases bb <;>
          · go_wp2_with fail
            go_ret2
            exact ⟨Below.refl _ _, by rw [hc.out]; rfl⟩
        · have hc0 : chk T zs = 0 := by
            unfold chk
            rw [if_neg (by rw [hl.out]; omega), if_neg hneg, if_neg hno]
          cases bb with
          | false =>
            have hs0 : sumL zs = 0 := sum_zero hnn fun h => by have := hbb.2 h; cases this
            have hc : shE T zs = 1 := by unfold shE; rw [if_neg (by rw [hc0]; decide), if_neg (by rw [hs0]; decide), if_pos hs0]
            replace hc := Lib.hid hc
            clear hbb hnn hno hkl hk hlt hs0 hc0
            go_wp2_with fail
            go_ret2
            exact ⟨Below.refl _ _, by rw [hc.out]; rfl⟩
          | true =>
            obtain ⟨y, hym, hy0⟩ := hbb.1 rfl
            have hyl := mem_le_sum hnn y hym
            have hbig : 9223372036854775807 < sumL zs := by
              rcases Int.lt_or_le 9223372036854775807 (sumL zs) with h | h
              · exact h
              · exfalso
                apply hE.out
                unfold shE
                rw [if_neg (by rw [hc0]; decide), if_neg (by omega), if_neg (by omega)]
            have hc : shE T zs = 3 := by unfold shE; rw [if_neg (by rw [hc0]; decide), if_pos hbig]
            have hf0 : fitRV (sumL zs) = 0 := by unfold fitRV; rw [if_neg (by omega)]
            have hf1 : fitRE (sumL zs) = 3 := by unfold fitRE; rw [if_neg (by omega)]
            replace hc := Lib.hid hc
            replace hf0 := Lib.hid hf0
            replace hf1 := Lib.hid hf1
            clear hbb hnn hno hkl hk hlt hc0 hyl hy0 hym hbig
            generalize hSe : sumL zs = S at *
            replace hSe := Lib.hid hSe
            go_upto_region 13 with (first | (go_at_call 93; (with_reducible refine htot.out.mono ?_); rintro e w1 ⟨v1, rfl, hv1, hb1⟩; obtain ⟨n1, p1, l1, c1, d1, rfl, hv1'⟩ := hv1))
            have hB1 : IsB w1 (.agg #[.bool n1, .slice p1 l1 c1]) (5 + k) S := ⟨n1, p1, l1, c1, d1, rfl, hv1'⟩
            have hA : BigAt (w1.alloc (.cells #[.bool n1, .slice p1 l1 c1] 79)) w1.heap.size 70 S n1 p1 l1 c1 := ⟨BigAt.made w1 n1 p1 l1 c1, (hB1.kept ((Below.refl _ _).alloc (Nat.le_refl _) _)).wide (by omega)⟩
            have hbw : Below w.heap.size w (w1.alloc (.cells #[.bool n1, .slice p1 l1 c1] 79)) := hb1.alloc hb1.size _
            clear hv1' hB1 hb1 htot
            generalize hgW : w1.alloc (Obj.cells #[.bool n1, .slice p1 l1 c1] 79) = W1 at *
            generalize w1.heap.size = b8 at *
            clear hgW
            have hfit := fit_any _ 70 S W1 hA.2 (by omega)
            rw [hf0.out, hf1.out] at hfit
            have c80 := hA.c0
            have c81 := hA.c1
            replace hA := Lib.hid hA
            replace hbw := Lib.hid hbw
            go_wp2_with (first | (go_at_call 31; (with_reducible refine hfit.mono ?_); rintro e w2 ⟨rfl, hb2⟩))
            go_ret2
            exact ⟨hbw.out.trans (hb2.mono hbw.out.size), by rw [hc.out]; rfl⟩

/-- the reference's Shares keeps its contract -/
theorem sharesR_any : SharesR := by
  intro T p len cap zs w hT hs
  by_cases h : shE T zs = 0
  · refine (sharesR_main T p len cap zs w hT hs h).mono ?_
    rintro e w' ⟨hb, hr⟩
    exact ⟨hb, Or.inr ⟨h, hr⟩⟩
  · refine (sharesR_err T p len cap zs w hT hs h).mono ?_
    rintro e w' ⟨hb, hr⟩
    exact ⟨hb, Or.inl ⟨h, hr⟩⟩

end Go.Proofs.YthocnlalahknjaaGreat
