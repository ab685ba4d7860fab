/- The contract of move: changes of a member's balances and of the nostros.
  The contracts of In, Out, Swap. -/
import Derived.Test.YtljclgphgojphaaLH2
import Derived.Deep.RegionHeld3
import Derived.Deep.RegionLaw
import Derived.Deep.CutRange
import Derived.Deep.CutBlock
import Derived.Deep.DeepCutAuto
import Derived.Deep.LoopGhost
namespace Go.Proofs.Ytljclgphgojphaa
open Go.RowKit
set_option linter.unusedVariables false

/-- changes that came in -/
def ChR (w : World) (p : Option Addr) (len : Nat) (cs : List (Nat × Int)) : Prop :=
  cs.length = len ∧ (∀ q ∈ cs, q.1 < 8 ∧ In64 q.2) ∧ ∃ g, p = some ⟨g, 0, none⟩ ∧ g < w.heap.size ∧ ∀ i q, cs[i]? = some q → w.cell? ⟨g, i * 2, none⟩ = some (.int .i64 (q.1 : Nat)) ∧ w.cell? ⟨g, i * 2 + 1, none⟩ = some (.int .i64 q.2)
/-- the balances and the nostros behind changes -/
def mvR : List (Nat × Int) → (Nat → Int) → (Nat → Int) → Option ((Nat → Int) × (Nat → Int))
  | [], b, n => some (b, n)
  | (c, x) :: r, b, n => if In64 (b c + x) ∧ In64 (n c + x) then mvR r (upd b c (b c + x)) (upd n c (n c + x)) else none

/-- what move tells -/
def MvP (P : Nat → Prop) (b : Nat) (l : LM) (m : Nat) (cs : List (Nat × Int)) (w : World) (e : Ending) (w' : World) : Prop :=
  (∀ r, mvR cs (l.B m) l.N = some r → e = .returned (.int .i64 0) ∧ PL P w' b ⟨l.nm, l.nc, updR l.B m r.1, r.2⟩) ∧ (mvR cs (l.B m) l.N = none → e = .returned (.int .i64 3) ∧ PL P w' b l) ∧ Kp P w w'
/-- move's way -/
structure MSt (w : World) (l : LM) (m : Nat) (cs : List (Nat × Int)) (p7 p8 k : Nat) (rb rn : Nat → Int) (wr : World) : Prop where
  x7 : BX wr p7 rb
  x8 : BX wr p8 rn
  go : mvR (cs.drop k) rb rn = mvR cs (l.B m) l.N
  ib : ∀ c, In64 (rb c)
  ini : ∀ c, In64 (rn c)
  blw : Below w.heap.size w wr
theorem MSt.drew {w : World} {l : LM} {m : Nat} {cs : List (Nat × Int)} {p7 p8 k : Nat} {rb rn : Nat → Int} {wr : World} (h : MSt w l m cs p7 p8 k rb rn wr) : MSt w l m cs p7 p8 k rb rn wr.drew := ⟨h.x7, h.x8, h.go, h.ib, h.ini, h.blw.drew⟩
theorem PLv.drew {P : Nat → Prop} {w : World} {b gB cB : Nat} {l : LM} (h : PLv P w b l gB cB) : PLv P w.drew b l gB cB := h.kept fun _ _ _ => rfl
theorem MSt.step {cs : List (Nat × Int)} {k : Nat} {q : Nat × Int} (hq : cs[k]? = some q) (rb rn : Nat → Int) :
    mvR (cs.drop k) rb rn = if In64 (rb q.1 + q.2) ∧ In64 (rn q.1 + q.2) then mvR (cs.drop (k + 1)) (upd rb q.1 (rb q.1 + q.2)) (upd rn q.1 (rn q.1 + q.2)) else none := by
  obtain ⟨hk, e⟩ := List.getElem?_eq_some_iff.1 hq
  rw [List.drop_eq_getElem_cons hk, e]
  obtain ⟨c, x⟩ := q
  rfl
theorem plus_in {f : Nat → Int} {c : Nat} {x : Int} (h : In64 (f c + x)) : plusR f c x = upd f c (f c + x) := if_pos h

set_option maxHeartbeats 8000000 in
set_option maxRecDepth 100000 in
theorem move_any (P : Nat → Prop) (b : Nat) (l : LM) (gB cB : Nat) (m : Nat) (p : Option Addr) (len cap : Nat) (cs : List (Nat × Int)) (w : World) (h : PLv P w b l gB cB) (hm : m < l.nm) (hb64 : ∀ c, In64 (l.B m c)) (hn64 : ∀ c, In64 (l.N c))
    (hcs : ChR w p len cs) (hl8 : len ≤ 1000) (hP : ∀ i, w.heap.size ≤ i → P i) :
    Calls Try.prog 40 #[.pointer (some ⟨b, 0, none⟩), .int .i64 (m : Int), .slice p len cap] w (MvP P b l m cs w) := by
  have c9 := h.c9
  obtain ⟨n0, n1, n2, n3, n4, n5, n6, n7⟩ := h.ncells
  obtain ⟨b0, b1, b2, b3, b4, b5, b6, b7⟩ := h.bal.cells hm
  have hmz : (m : Int) < (l.nm : Int) := by omega
  have hbl := obj_lt h.obj
  have hgl := h.bal.lt
  replace h := Lib.hid h
  replace hb64 := Lib.hid hb64
  replace hn64 := Lib.hid hn64
  replace hcs := Lib.hid hcs
  replace hP := Lib.hid hP
  go_enter Try.func40, Try.ntmps40
  go_upto_region 1 with (fail)
  go_cut [7, 8] from 14 (fun v7 v8 wc => ∃ p7 p8 : Nat, v7 = .pointer (some ⟨p7, 0, none⟩) ∧ v8 = .pointer (some ⟨p8, 0, none⟩) ∧ Hid (BX wc p7 (l.B m)) ∧ Hid (BX wc p8 l.N) ∧ Hid (p7 ≠ p8 ∧ w.heap.size ≤ p7 ∧ w.heap.size ≤ p8) ∧ Hid (Below w.heap.size w wc))
  case first =>
    go_region
    all_goals go_wp2_with fail
    all_goals go_meet
    all_goals
      (try case rel => first
        | exact ⟨_, _, rfl, rfl, heap_alloc2_old w _ _, heap_alloc2_new w _ _, ⟨by omega, by omega, by omega⟩, (((Below.refl _ w).alloc (Nat.le_refl _) _).alloc (by simp) _).drew⟩
        | exact ⟨_, _, rfl, rfl, heap_alloc2_new w _ _, heap_alloc2_old w _ _, ⟨by omega, by omega, by omega⟩, (((Below.refl _ w).alloc (Nat.le_refl _) _).alloc (by simp) _).drew⟩)
  case rest =>
    obtain ⟨p7, p8, rfl, rfl, hb7, hb8, hpp, hBc⟩ := hcut
    have hS0 : MSt w l m cs p7 p8 0 (l.B m) l.N wc := ⟨hb7.out, hb8.out, rfl, hb64.out, hn64.out, hBc.out⟩
    clear c9 n0 n1 n2 n3 n4 n5 n6 n7 b0 b1 b2 b3 b4 b5 b6 b7
    replace hS0 := Lib.hid hS0
    go_upto_region 3 with (fail)
    go_loopw [27] (fun i wr => ∃ (k : Nat) (rb rn : Nat → Int), k ≤ len ∧ i = .int .i64 (k : Int) ∧ Hid (MSt w l m cs p7 p8 k rb rn wr)) (fun i _ => len - (intOf i).toNat)
    case atStart => exact ⟨0, _, _, by omega, rfl, hS0⟩
    case round =>
      obtain ⟨k, rb, rn, hk, rfl, hS⟩ := hrel
      by_cases hkl : k < len
      · have hkz : (k : Int) < (len : Int) := by omega
        obtain ⟨hlen, hrng, g, rfl, hgs, hcells⟩ := hcs.out
        obtain ⟨⟨c, x⟩, hq⟩ : ∃ q, cs[k]? = some q := ⟨cs[k], List.getElem?_eq_getElem (by omega)⟩
        have hT := hS.out
        have hws := hT.blw.size
        obtain ⟨q0, q1⟩ := hcells k _ hq
        replace q0 := (hT.blw.cell (p := ⟨g, k * 2, none⟩) hgs).trans q0
        replace q1 := (hT.blw.cell (p := ⟨g, k * 2 + 1, none⟩) hgs).trans q1
        have hgs2 : g < wr.heap.size := by omega
        obtain ⟨hc8, hx64⟩ := hrng _ (List.mem_of_getElem? hq)
        dsimp only at q0 q1 hc8 hx64
        have hstep := MSt.step hq rb rn
        dsimp only at hstep
        rw [hT.go] at hstep
        have hp1 := fun w => rplus_any rb hT.ib c hc8 x hx64 w
        have hp2 := fun w => rplus_any rn hT.ini c hc8 x hx64 w
        have hbx := heap_alloc_new wr (.cells #[.int .i64 (c : Int), .int .i64 x] 81)
        have h7a : BX (wr.alloc (.cells #[.int .i64 (c : Int), .int .i64 x] 81)) p7 rb := hT.x7.at (Below.heap_alloc _ _ _ (obj_lt hT.x7))
        have h8a : BX (wr.alloc (.cells #[.int .i64 (c : Int), .int .i64 x] 81)) p8 rn := hT.x8.at (Below.heap_alloc _ _ _ (obj_lt hT.x8))
        have hBa : Below w.heap.size w (wr.alloc (.cells #[.int .i64 (c : Int), .int .i64 x] 81)) := hT.blw.alloc hws _
        have hp7l := obj_lt hT.x7
        have hp8l := obj_lt hT.x8
        replace hcells := Lib.hid hcells
        replace hrng := Lib.hid hrng
        replace hT := Lib.hid hT
        replace hstep := Lib.hid hstep
        replace hp1 := Lib.hid hp1
        replace hp2 := Lib.hid hp2
        replace hq := Lib.hid hq
        replace hx64 := Lib.hid hx64
        go_upto_region 5 with (fail)
        change Code.wp _ _ _ _ (wr.alloc (.cells #[.int .i64 (c : Int), .int .i64 x] 81))
        generalize hv : wr.alloc (.cells #[.int .i64 (c : Int), .int .i64 x] 81) = v at *
        have hvs : v.heap.size = wr.heap.size + 1 := by rw [← hv]; simp
        have d0 : v.cell? ⟨wr.heap.size, 0, none⟩ = some (.int .i64 (c : Int)) := obj_cell hbx rfl
        have d1 : v.cell? ⟨wr.heap.size, 1, none⟩ = some (.int .i64 x) := obj_cell hbx rfl
        obtain ⟨y0, y1, y2, y3, y4, y5, y6, y7⟩ := h7a.cells
        replace hv := Lib.hid hv
        replace hbx := Lib.hid hbx
        replace h7a := Lib.hid h7a
        replace h8a := Lib.hid h8a
        replace hBa := Lib.hid hBa
        go_wp2_with fail
        clear y0 y1 y2 y3 y4 y5 y6 y7
        by_cases hI1 : In64 (rb c + x)
        · have hp1' := hp1.out v
          rw [plus_in hI1, (fitE_in hI1).2] at hp1'
          generalize hz1 : upd rb c (rb c + x) = f1 at *
          unfold r8 at hp1'
          replace hp1' := Lib.hid hp1'
          with_reducible refine hp1'.out.mono ?_
          rintro e w1 ⟨rfl, hb1⟩
          have hbx1 := (hb1.block _ (by omega)).trans hbx.out
          have h71 : BX w1 p7 rb := h7a.out.at (hb1.block _ (by omega))
          have h81 : BX w1 p8 rn := h8a.out.at (hb1.block _ (by omega))
          have hw1 := hb1.size
          have hv2s : (w1.alloc (.cells (r8 f1) 67)).heap.size = w1.heap.size + 1 := by simp
          have hnew : BX (w1.alloc (.cells (r8 f1) 67)) w1.heap.size f1 := BX.made w1 f1
          have hbx2 := (Below.heap_alloc w1 (.cells (r8 f1) 67) _ (by omega)).trans hbx1
          have h72 : BX (w1.alloc (.cells (r8 f1) 67)) p7 rb := h71.at (Below.heap_alloc _ _ _ (by omega))
          have h82 : BX (w1.alloc (.cells (r8 f1) 67)) p8 rn := h81.at (Below.heap_alloc _ _ _ (by omega))
          have hBb : Below w.heap.size w (w1.alloc (.cells (r8 f1) 67)) := (hBa.out.trans (hb1.mono (by omega))).alloc (by omega) _
          clear hbx1 h71 h81
          unfold r8 at hv2s hnew hbx2 h72 h82 hBb
          replace hb1 := Lib.hid hb1
          go_upto_region 8 with (fail)
          change Code.wp _ _ _ _ (w1.alloc (.cells #[.int .i64 (f1 0), .int .i64 (f1 1), .int .i64 (f1 2), .int .i64 (f1 3), .int .i64 (f1 4), .int .i64 (f1 5), .int .i64 (f1 6), .int .i64 (f1 7)] 67))
          generalize hv2 : w1.alloc (.cells #[.int .i64 (f1 0), .int .i64 (f1 1), .int .i64 (f1 2), .int .i64 (f1 3), .int .i64 (f1 4), .int .i64 (f1 5), .int .i64 (f1 6), .int .i64 (f1 7)] 67) = v2 at *
          have d0 : v2.cell? ⟨wr.heap.size, 0, none⟩ = some (.int .i64 (c : Int)) := obj_cell hbx2 rfl
          have d1 : v2.cell? ⟨wr.heap.size, 1, none⟩ = some (.int .i64 x) := obj_cell hbx2 rfl
          obtain ⟨y0, y1, y2, y3, y4, y5, y6, y7⟩ := h82.cells
          replace hv2 := Lib.hid hv2
          replace hnew := Lib.hid hnew
          replace hbx2 := Lib.hid hbx2
          replace h72 := Lib.hid h72
          replace h82 := Lib.hid h82
          replace hBb := Lib.hid hBb
          go_wp2_with fail
          clear y0 y1 y2 y3 y4 y5 y6 y7
          by_cases hI2 : In64 (rn c + x)
          · have hp2' := hp2.out v2
            rw [plus_in hI2, (fitE_in hI2).2] at hp2'
            generalize hz2 : upd rn c (rn c + x) = f2 at *
            unfold r8 at hp2'
            replace hp2' := Lib.hid hp2'
            with_reducible refine hp2'.out.mono ?_
            rintro e w2 ⟨rfl, hb2⟩
            have hw2 := hb2.size
            have hnew1 : BX w2 w1.heap.size f1 := hnew.out.at (hb2.block _ (by omega))
            have h73 : BX w2 p7 rb := h72.out.at (hb2.block _ (by omega))
            have h83 : BX w2 p8 rn := h82.out.at (hb2.block _ (by omega))
            have hv3s : (w2.alloc (.cells (r8 f2) 67)).heap.size = w2.heap.size + 1 := by simp
            have hnew2 : BX (w2.alloc (.cells (r8 f2) 67)) w2.heap.size f2 := BX.made w2 f2
            have hnew3 : BX (w2.alloc (.cells (r8 f2) 67)) w1.heap.size f1 := hnew1.at (Below.heap_alloc _ _ _ (by omega))
            have h74 : BX (w2.alloc (.cells (r8 f2) 67)) p7 rb := h73.at (Below.heap_alloc _ _ _ (by omega))
            have h84 : BX (w2.alloc (.cells (r8 f2) 67)) p8 rn := h83.at (Below.heap_alloc _ _ _ (by omega))
            have hBc2 : Below w.heap.size w (w2.alloc (.cells (r8 f2) 67)) := (hBb.out.trans (hb2.mono (by omega))).alloc (by omega) _
            clear hnew1 h73 h83
            unfold r8 at hv3s hnew2 hnew3 h74 h84 hBc2
            replace hb2 := Lib.hid hb2
            go_upto_region 11 with (fail)
            change Code.wp _ _ _ _ (w2.alloc (.cells #[.int .i64 (f2 0), .int .i64 (f2 1), .int .i64 (f2 2), .int .i64 (f2 3), .int .i64 (f2 4), .int .i64 (f2 5), .int .i64 (f2 6), .int .i64 (f2 7)] 67))
            generalize hv3 : w2.alloc (.cells #[.int .i64 (f2 0), .int .i64 (f2 1), .int .i64 (f2 2), .int .i64 (f2 3), .int .i64 (f2 4), .int .i64 (f2 5), .int .i64 (f2 6), .int .i64 (f2 7)] 67) = v3 at *
            have hne := hpp.out.1
            have hfin : MSt w l m cs p7 p8 (k + 1) f1 f2 (st8 (st8 v3 p7 0 f1) p8 0 f2).drew := by
              have hst := hstep.out
              rw [if_pos ⟨hI1, hI2⟩] at hst
              have a7 : BX v3 p7 rb := h74
              have a8 : BX v3 p8 rn := h84
              refine MSt.drew ⟨(a7.set f1).other f2 hne, (a8.other f1 (Ne.symm hne)).set f2, hst.symm, ?_, ?_, below_st8 (below_st8 hBc2 hpp.out.2.1 _ _) hpp.out.2.2 _ _⟩
              · rw [← hz1]; exact upd_in hT.out.ib hI1
              · rw [← hz2]; exact upd_in hT.out.ini hI2
            obtain ⟨y0, y1, y2, y3, y4, y5, y6, y7⟩ := hnew3.cells
            obtain ⟨s0, s1, s2, s3, s4, s5, s6, s7⟩ := hnew2.cells
            obtain ⟨r0, r1, r2, r3, r4, r5, r6, r7⟩ := h74.cells
            obtain ⟨t0, t1, t2, t3, t4, t5, t6, t7⟩ := h84.cells
            have z7 := obj_free h74
            have z8 := obj_free h84
            generalize hv4 : (st8 (st8 v3 p7 0 f1) p8 0 f2).drew = v4 at *
            replace hv4 := Lib.hid hv4
            replace hfin := Lib.hid hfin
            replace hv3 := Lib.hid hv3
            replace hnew2 := Lib.hid hnew2
            replace hnew3 := Lib.hid hnew3
            replace h74 := Lib.hid h74
            replace h84 := Lib.hid h84
            replace hBc2 := Lib.hid hBc2
            go_region
            all_goals go_upto_region 12 with (fail)
            all_goals change Code.wp _ _ _ _ (st8 (st8 v3 p7 0 f1) p8 0 f2).drew
            all_goals rw [hv4.out]
            all_goals go_wp2_with fail
            go_roundw
            case rel => exact ⟨k + 1, _, _, by omega, by go_num, hfin⟩
            case measure => simp [intOf]; omega
          · have hp2' := hp2.out v2
            rw [fitE_out hI2] at hp2'
            generalize plusR rn c x = f2 at *
            unfold r8 at hp2'
            replace hp2' := Lib.hid hp2'
            with_reducible refine hp2'.out.mono ?_
            rintro e w2 ⟨rfl, hb2⟩
            have hfin : Below w.heap.size w (w2.alloc (.cells (r8 f2) 67)) := (hBb.out.trans (hb2.mono (by omega))).alloc (by have := hb2.size; omega) _
            have hst := hstep.out
            rw [if_neg (fun h => hI2 h.2)] at hst
            unfold r8 at hfin
            replace hfin := Lib.hid hfin
            replace hst := Lib.hid hst
            replace hb2 := Lib.hid hb2
            replace hI1 := Lib.hid hI1
            replace hI2 := Lib.hid hI2
            go_wp2_with fail
            go_ret
            exact ⟨fun r hr => absurd hr (by rw [hst.out]; simp), fun _ => ⟨rfl, gB, cB, h.out.below hfin.out⟩, Kp.of_below hfin.out⟩
        · have hp1' := hp1.out v
          rw [fitE_out hI1] at hp1'
          generalize plusR rb c x = f2 at *
          unfold r8 at hp1'
          replace hp1' := Lib.hid hp1'
          with_reducible refine hp1'.out.mono ?_
          rintro e w2 ⟨rfl, hb2⟩
          have hfin : Below w.heap.size w (w2.alloc (.cells (r8 f2) 67)) := (hBa.out.trans (hb2.mono (by omega))).alloc (by have := hb2.size; omega) _
          have hst := hstep.out
          rw [if_neg (fun h => hI1 h.1)] at hst
          unfold r8 at hfin
          replace hfin := Lib.hid hfin
          replace hst := Lib.hid hst
          replace hb2 := Lib.hid hb2
          replace hI1 := Lib.hid hI1
          go_wp2_with fail
          go_ret
          exact ⟨fun r hr => absurd hr (by rw [hst.out]; simp), fun _ => ⟨rfl, gB, cB, h.out.below hfin.out⟩, Kp.of_below hfin.out⟩
      · obtain rfl : k = len := by omega
        have hkz : ¬ (k : Int) < (k : Int) := by omega
        have hT := hS.out
        have hgo := hT.go
        rw [← hcs.out.1, List.drop_length] at hgo
        have hL := h.out.below hT.blw
        have c9 := hL.c9
        have c1 := hL.ncells
        have hne : p7 ≠ b ∧ p8 ≠ b ∧ p7 ≠ gB ∧ p8 ≠ gB := by have := hpp.out; omega
        have hbg : gB ≠ b := by
          rintro rfl
          have h1 := hL.obj
          obtain ⟨cs', h2, _⟩ := hL.bal
          rw [h1] at h2
          simp at h2
        obtain ⟨y0, y1, y2, y3, y4, y5, y6, y7⟩ := hT.x7.cells
        obtain ⟨s0, s1, s2, s3, s4, s5, s6, s7⟩ := hT.x8.cells
        obtain ⟨n0, n1, n2, n3, n4, n5, n6, n7⟩ := hL.ncells
        obtain ⟨b0, b1, b2, b3, b4, b5, b6, b7⟩ := hL.bal.cells hm
        have zb := obj_free hL.obj
        have zg := hL.bal.free
        have hfin : PLv P (st8 (st8 wr gB (m * 8) rb) b 1 rn).drew b ⟨l.nm, l.nc, updR l.B m rb, rn⟩ gB cB := by
          have hs1 := hL.bal.set hm rb
          have ho1 := (st8_other wr (m * 8) rb (Ne.symm hbg)).trans hL.obj
          exact PLv.drew ⟨lObj_set ho1 rn, hs1.at (st8_other _ _ _ hbg), hL.nm, hL.nc, hL.own⟩
        have hKf : Kp P w (st8 (st8 wr gB (m * 8) rb) b 1 rn).drew := (Kp.st8 (Kp.st8 (Kp.of_below hT.blw) (.inl h.out.own.2) _ _) (.inl h.out.own.1) _ _).drew
        generalize hv4 : (st8 (st8 wr gB (m * 8) rb) b 1 rn).drew = v4 at *
        replace hv4 := Lib.hid hv4
        obtain ⟨e1, e2, e3, e4⟩ := hne
        replace hfin := Lib.hid hfin
        replace hKf := Lib.hid hKf
        replace hL := Lib.hid hL
        replace hT := Lib.hid hT
        replace hgo := Lib.hid hgo
        clear c1
        go_upto_region 13 with (fail)
        go_region
        all_goals go_upto_region 14 with (fail)
        all_goals change Code.wp _ _ _ _ (st8 (st8 wr gB (m * 8) rb) b 1 rn).drew
        all_goals rw [hv4.out]
        all_goals go_wp2_with fail
        all_goals go_ret
        all_goals exact ⟨fun r hr => ⟨rfl, by
          have hg := hgo.out
          rw [hr] at hg
          injection hg with hg
          rw [← hg]
          exact ⟨gB, cB, hfin.out⟩⟩, fun hr => absurd hr (by rw [← hgo.out]; simp [mvR]), hKf.out⟩
end Go.Proofs.Ytljclgphgojphaa
namespace Go.Proofs.Ytljclgphgojphaa
open Go.RowKit
set_option linter.unusedVariables false

theorem chR1 (w : World) (c : Nat) (x : Int) (hc : c < 8) (hx : In64 x) : ChR (w.alloc (.cells #[.int .i64 (c : Int), .int .i64 x] 81)) (some ⟨w.heap.size, 0, none⟩) 1 [(c, x)] := by
  refine ⟨rfl, fun q hq => by obtain rfl := List.mem_singleton.1 hq; exact ⟨hc, hx⟩, _, rfl, by simp, fun i q hq => ?_⟩
  have hb := heap_alloc_new w (.cells #[.int .i64 (c : Int), .int .i64 x] 81)
  match i with
  | 0 => injection hq with hq; rw [← hq]; exact ⟨obj_cell hb rfl, obj_cell hb rfl⟩
  | i + 1 => simp at hq
theorem chR2 (w : World) (c : Nat) (x : Int) (d : Nat) (y : Int) (hc : c < 8) (hx : In64 x) (hd : d < 8) (hy : In64 y) : ChR (w.alloc (.cells #[.int .i64 (c : Int), .int .i64 x, .int .i64 (d : Int), .int .i64 y] 81)) (some ⟨w.heap.size, 0, none⟩) 2 [(c, x), (d, y)] := by
  refine ⟨rfl, fun q hq => ?_, _, rfl, by simp, fun i q hq => ?_⟩
  · simp at hq
    rcases hq with rfl | rfl
    · exact ⟨hc, hx⟩
    · exact ⟨hd, hy⟩
  have hb := heap_alloc_new w (.cells #[.int .i64 (c : Int), .int .i64 x, .int .i64 (d : Int), .int .i64 y] 81)
  match i with
  | 0 => injection hq with hq; rw [← hq]; exact ⟨obj_cell hb rfl, obj_cell hb rfl⟩
  | 1 => injection hq with hq; rw [← hq]; exact ⟨obj_cell hb rfl, obj_cell hb rfl⟩
  | i + 2 => simp at hq
theorem updR_upd (B : Nat → Nat → Int) (m c : Nat) (x : Int) : updR B m (upd (B m) c x) = upd2 B m c x := by
  funext a b
  unfold updR upd2 upd
  by_cases e : a = m
  · subst e; simp
  · simp [e]
theorem PL.cast {P : Nat → Prop} {w : World} {b : Nat} {l k : LM} (h : PL P w b l) (e : l = k) : PL P w b k := e ▸ h
theorem mv1 (c : Nat) (x : Int) (b n : Nat → Int) : mvR [(c, x)] b n = if In64 (b c + x) ∧ In64 (n c + x) then some (upd b c (b c + x), upd n c (n c + x)) else none := rfl

set_option maxHeartbeats 4000000 in
set_option maxRecDepth 100000 in
theorem in_any (P : Nat → Prop) (b : Nat) (l : LM) (m c a : Int) (w : World) (h0 : PL P w b l) (hg : l.Good) (ha : In64 a) (hP : ∀ i, w.heap.size ≤ i → P i) :
    Calls Try.prog 18 #[.pointer (some ⟨b, 0, none⟩), .int .i64 m, .int .i64 c, .int .i64 a] w fun e w' => e = .returned (.int .i64 (l.inn m c a).1) ∧ PL P w' b (l.inn m c a).2 ∧ Kp P w w' := by
  obtain ⟨gB, cB, h⟩ := h0
  have hH := hasL_any m c w h
  have hL : PL P w b l := ⟨gB, cB, h⟩
  unfold LM.inn
  cases hh : l.has m c with
  | false =>
    rw [if_neg (by simp)]
    rw [hh] at hH
    replace hH := Lib.hid hH
    replace hh := Lib.hid hh
    replace h := Lib.hid h
    replace hL := Lib.hid hL
    replace hg := Lib.hid hg
    go_enter Try.func18, Try.ntmps18
    go_wp2_with fail
    with_reducible refine hH.out.mono ?_
    rintro e w1 ⟨rfl, rfl⟩
    go_wp2_with fail
    go_ret
    exact ⟨rfl, hL.out, Kp.refl _ _⟩
  | true =>
    by_cases h1 : 1 ≤ a
    · rw [if_pos ⟨rfl, h1⟩]
      obtain ⟨i, j, rfl, rfl, hi, hj⟩ := LM.has_nat hh
      have hn8 := h.nc
      have hj8 : j < 8 := by omega
      simp only [Int.toNat_natCast]
      rw [hh] at hH
      have hBa : Below w.heap.size w (w.alloc (.cells #[.int .i64 (j : Int), .int .i64 a] 81)) := (Below.refl _ _).alloc (Nat.le_refl _) _
      have hm := move_any P b l gB cB i (some ⟨w.heap.size, 0, none⟩) 1 1 [(j, a)] (w.alloc (.cells #[.int .i64 (j : Int), .int .i64 a] 81)) (h.below hBa) hi (fun c => hg.ok.b i c) hg.ok.n (chR1 w j a hj8 ha) (by omega) (fun q hq => hP q (by simp at hq; omega))
      have hfin : ∀ e w', MvP P b l i [(j, a)] (w.alloc (.cells #[.int .i64 (j : Int), .int .i64 a] 81)) e w' → (∃ x : Int, e = .returned (.int .i64 x)) ∧ (e = .returned (.int .i64 (if In64 (l.B i j + a) ∧ In64 (l.N j + a) then ((0 : Int), (⟨l.nm, l.nc, upd2 l.B i j (l.B i j + a), upd l.N j (l.N j + a)⟩ : LM)) else (3, l)).1) ∧ PL P w' b (if In64 (l.B i j + a) ∧ In64 (l.N j + a) then ((0 : Int), (⟨l.nm, l.nc, upd2 l.B i j (l.B i j + a), upd l.N j (l.N j + a)⟩ : LM)) else (3, l)).2 ∧ Kp P w w') := by
        rintro e w' ⟨hA, hB, hK⟩
        rw [mv1] at hA hB
        by_cases hI : In64 (l.B i j + a) ∧ In64 (l.N j + a)
        · rw [if_pos hI] at hA
          rw [if_pos hI]
          obtain ⟨e1, e2⟩ := hA _ rfl
          exact ⟨⟨_, e1⟩, e1, e2.cast (by rw [updR_upd]), (Kp.of_below hBa).trans hK⟩
        · rw [if_neg hI] at hB
          rw [if_neg hI]
          obtain ⟨e1, e2⟩ := hB rfl
          exact ⟨⟨_, e1⟩, e1, e2, (Kp.of_below hBa).trans hK⟩
      generalize (if In64 (l.B i j + a) ∧ In64 (l.N j + a) then ((0 : Int), (⟨l.nm, l.nc, upd2 l.B i j (l.B i j + a), upd l.N j (l.N j + a)⟩ : LM)) else (3, l)) = R at *
      replace hH := Lib.hid hH
      replace hh := Lib.hid hh
      replace h := Lib.hid h
      replace hL := Lib.hid hL
      replace hg := Lib.hid hg
      replace hm := Lib.hid hm
      replace hfin := Lib.hid hfin
      replace hBa := Lib.hid hBa
      go_enter Try.func18, Try.ntmps18
      go_wp2_with fail
      with_reducible refine hH.out.mono ?_
      rintro e w1 ⟨rfl, rfl⟩
      go_wp2_with fail
      with_reducible refine hm.out.mono ?_
      rintro e w2 hM
      obtain ⟨⟨x, rfl⟩, hF⟩ := hfin.out _ _ hM
      replace hM := Lib.hid hM
      replace hF := Lib.hid hF
      go_wp2_with fail
      go_ret
      exact hF.out
    · rw [if_neg (fun h => h1 h.2)]
      rw [hh] at hH
      replace hH := Lib.hid hH
      replace hh := Lib.hid hh
      replace h := Lib.hid h
      replace hL := Lib.hid hL
      replace hg := Lib.hid hg
      go_enter Try.func18, Try.ntmps18
      go_wp2_with fail
      with_reducible refine hH.out.mono ?_
      rintro e w1 ⟨rfl, rfl⟩
      go_wp2_with fail
      go_ret
      exact ⟨rfl, hL.out, Kp.refl _ _⟩

theorem neg_in {a : Int} (h1 : 1 ≤ a) (h : In64 a) : In64 (-a) := by unfold In64 at *; omega
set_option maxHeartbeats 4000000 in
set_option maxRecDepth 100000 in
theorem out_any (P : Nat → Prop) (b : Nat) (l : LM) (m c a : Int) (w : World) (h0 : PL P w b l) (hg : l.Good) (ha : In64 a) (hP : ∀ i, w.heap.size ≤ i → P i) :
    Calls Try.prog 37 #[.pointer (some ⟨b, 0, none⟩), .int .i64 m, .int .i64 c, .int .i64 a] w fun e w' => e = .returned (.int .i64 (l.out m c a).1) ∧ PL P w' b (l.out m c a).2 ∧ Kp P w w' := by
  obtain ⟨gB, cB, h⟩ := h0
  have hH := hasL_any m c w h
  have hL : PL P w b l := ⟨gB, cB, h⟩
  have a0 := ha.1
  have a1 := ha.2
  unfold LM.out
  cases hh : l.has m c with
  | false =>
    rw [if_neg (by simp)]
    rw [hh] at hH
    replace hH := Lib.hid hH
    replace hh := Lib.hid hh
    replace h := Lib.hid h
    replace hL := Lib.hid hL
    replace hg := Lib.hid hg
    go_enter Try.func37, Try.ntmps37
    go_wp2_with fail
    with_reducible refine hH.out.mono ?_
    rintro e w1 ⟨rfl, rfl⟩
    go_wp2_with fail
    go_ret
    exact ⟨rfl, hL.out, Kp.refl _ _⟩
  | true =>
    by_cases h1 : 1 ≤ a
    · rw [if_pos ⟨rfl, h1⟩]
      obtain ⟨i, j, rfl, rfl, hi, hj⟩ := LM.has_nat hh
      have hn8 := h.nc
      have hj8 : j < 8 := by omega
      have hiz : (i : Int) < (l.nm : Int) := by omega
      have hjz : (j : Int) < 8 := by omega
      have c9 := h.c9
      have x0 := h.bal.cell hi hj8
      have x1 := h.cn hj8
      simp only [Int.toNat_natCast]
      rw [hh] at hH
      by_cases hlt : l.B i j < a
      · rw [if_pos (.inl hlt)]
        replace hH := Lib.hid hH
        replace hh := Lib.hid hh
        replace h := Lib.hid h
        replace hL := Lib.hid hL
        replace hg := Lib.hid hg
        go_enter Try.func37, Try.ntmps37
        go_wp2_with fail
        with_reducible refine hH.out.mono ?_
        rintro e w1 ⟨rfl, rfl⟩
        go_wp2_with fail
        go_ret
        exact ⟨rfl, hL.out, Kp.refl _ _⟩
      by_cases hlt2 : l.N j < a
      · rw [if_pos (.inr hlt2)]
        replace hH := Lib.hid hH
        replace hh := Lib.hid hh
        replace h := Lib.hid h
        replace hL := Lib.hid hL
        replace hg := Lib.hid hg
        go_enter Try.func37, Try.ntmps37
        go_wp2_with fail
        with_reducible refine hH.out.mono ?_
        rintro e w1 ⟨rfl, rfl⟩
        go_wp2_with fail
        go_ret
        exact ⟨rfl, hL.out, Kp.refl _ _⟩
      rw [if_neg (fun h => h.elim hlt hlt2)]
      have hBa : Below w.heap.size w (w.alloc (.cells #[.int .i64 (j : Int), .int .i64 (-a)] 81)) := (Below.refl _ _).alloc (Nat.le_refl _) _
      have hm := move_any P b l gB cB i (some ⟨w.heap.size, 0, none⟩) 1 1 [(j, -a)] (w.alloc (.cells #[.int .i64 (j : Int), .int .i64 (-a)] 81)) (h.below hBa) hi (fun c => hg.ok.b i c) hg.ok.n (chR1 w j (-a) hj8 (neg_in h1 ha)) (by omega) (fun q hq => hP q (by simp at hq; omega))
      have hfin : ∀ e w', MvP P b l i [(j, -a)] (w.alloc (.cells #[.int .i64 (j : Int), .int .i64 (-a)] 81)) e w' → (∃ x : Int, e = .returned (.int .i64 x)) ∧ (e = .returned (.int .i64 0) ∧ PL P w' b ⟨l.nm, l.nc, upd2 l.B i j (l.B i j - a), upd l.N j (l.N j - a)⟩ ∧ Kp P w w') := by
        rintro e w' ⟨hA, hB, hK⟩
        rw [mv1] at hA hB
        have hb := hg.ok.b i j
        have hn := hg.ok.n j
        have hI : In64 (l.B i j + -a) ∧ In64 (l.N j + -a) := by unfold In64 at *; omega
        rw [if_pos hI] at hA
        obtain ⟨e1, e2⟩ := hA _ rfl
        exact ⟨⟨_, e1⟩, e1, e2.cast (by rw [updR_upd, Int.sub_eq_add_neg, Int.sub_eq_add_neg]), (Kp.of_below hBa).trans hK⟩
      generalize (⟨l.nm, l.nc, upd2 l.B i j (l.B i j - a), upd l.N j (l.N j - a)⟩ : LM) = R at *
      replace hH := Lib.hid hH
      replace hh := Lib.hid hh
      replace h := Lib.hid h
      replace hL := Lib.hid hL
      replace hg := Lib.hid hg
      replace hm := Lib.hid hm
      replace hfin := Lib.hid hfin
      replace hBa := Lib.hid hBa
      go_enter Try.func37, Try.ntmps37
      go_wp2_with fail
      with_reducible refine hH.out.mono ?_
      rintro e w1 ⟨rfl, rfl⟩
      go_wp2_with fail
      with_reducible refine hm.out.mono ?_
      rintro e w2 hM
      obtain ⟨⟨x, rfl⟩, hF⟩ := hfin.out _ _ hM
      replace hM := Lib.hid hM
      replace hF := Lib.hid hF
      go_wp2_with fail
      go_ret
      exact hF.out
    · rw [if_neg (fun h => h1 h.2)]
      rw [hh] at hH
      replace hH := Lib.hid hH
      replace hh := Lib.hid hh
      replace h := Lib.hid h
      replace hL := Lib.hid hL
      replace hg := Lib.hid hg
      go_enter Try.func37, Try.ntmps37
      go_wp2_with fail
      with_reducible refine hH.out.mono ?_
      rintro e w1 ⟨rfl, rfl⟩
      go_wp2_with fail
      go_ret
      exact ⟨rfl, hL.out, Kp.refl _ _⟩

end Go.Proofs.Ytljclgphgojphaa
