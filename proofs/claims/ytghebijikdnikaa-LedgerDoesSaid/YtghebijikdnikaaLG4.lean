/- The contract of the reference's Swap. -/
import Derived.Test.YtghebijikdnikaaLG3
namespace Go.Proofs.Ytghebijikdnikaa
open Go.RowKit
set_option linter.unusedVariables false

set_option maxHeartbeats 8000000 in
set_option maxRecDepth 100000 in
theorem swapRL_any {P : Nat → Prop} {b : Nat} {l : LM} (m q v got given : Int) (w : World) (h0 : RL P w b l) (hl : l.Ok) (hg : In64 got) (hv : In64 given) :
    Calls Try.prog 14 #[.pointer (some ⟨b, 0, none⟩), .int .i64 m, .int .i64 q, .int .i64 v, .int .i64 got, .int .i64 given] w (RDid P b (l.swap m q v got given) w) := by
  obtain ⟨gB, cB, gN, cN, g, cp, h⟩ := h0
  have hH := hasRL_any m q w h
  have hH2 := hasRL_any m v w h
  have hsame : RDid P b (1, l) w (.returned (.int .i64 1)) w := ⟨rfl, RL.of h, Kp.refl _ _⟩
  have hrisk : RDid P b (10, l) w (.returned (.int .i64 10)) w := ⟨rfl, RL.of h, Kp.refl _ _⟩
  replace hsame := Lib.hid hsame
  replace hrisk := Lib.hid hrisk
  unfold LM.swap
  cases hh : l.has m q with
  | false =>
    rw [if_neg (by simp)]
    rw [hh] at hH
    replace hH := Lib.hid hH
    replace hH2 := Lib.hid hH2
    replace hh := Lib.hid hh
    clear h hl
    go_enter Try.func14, Try.ntmps14
    go_wp2_with (first | (go_at_call 29; (with_reducible refine hH.out.mono ?_); rintro e z ⟨rfl, rfl⟩))
    go_ret
    exact hsame.out
  | true =>
  rw [hh] at hH
  replace hH := Lib.hid hH
  cases hh2 : l.has m v with
  | false =>
    rw [if_neg (by simp)]
    rw [hh2] at hH2
    replace hH2 := Lib.hid hH2
    replace hh := Lib.hid hh
    replace hh2 := Lib.hid hh2
    clear h hl
    go_enter Try.func14, Try.ntmps14
    go_wp2_with (first | (go_at_call 29; (with_reducible refine hH.out.mono ?_); rintro e z ⟨rfl, rfl⟩) | (go_at_call 29; (with_reducible refine hH2.out.mono ?_); rintro e z ⟨rfl, rfl⟩))
    go_ret
    exact hsame.out
  | true =>
  rw [hh2] at hH2
  replace hH2 := Lib.hid hH2
  by_cases hqv : q = v
  · rw [if_neg (by intro e; exact e.2.2.1 hqv)]
    have hb : (q == v) = true := by simpa using hqv
    replace hh := Lib.hid hh
    replace hh2 := Lib.hid hh2
    replace hqv := Lib.hid hqv
    clear h hl
    go_enter Try.func14, Try.ntmps14
    go_wp2_with (first | (go_at_call 29; (with_reducible refine hH.out.mono ?_); rintro e z ⟨rfl, rfl⟩) | (go_at_call 29; (with_reducible refine hH2.out.mono ?_); rintro e z ⟨rfl, rfl⟩))
    go_ret
    exact hsame.out
  have hb : (q == v) = false := by simpa using hqv
  by_cases hg1 : got < 1
  · rw [if_neg (by intro e; omega)]
    replace hh := Lib.hid hh
    replace hh2 := Lib.hid hh2
    clear h hl
    go_enter Try.func14, Try.ntmps14
    go_wp2_with (first | (go_at_call 29; (with_reducible refine hH.out.mono ?_); rintro e z ⟨rfl, rfl⟩) | (go_at_call 29; (with_reducible refine hH2.out.mono ?_); rintro e z ⟨rfl, rfl⟩))
    go_ret
    exact hsame.out
  by_cases hv1 : given < 1
  · rw [if_neg (by intro e; omega)]
    replace hh := Lib.hid hh
    replace hh2 := Lib.hid hh2
    clear h hl
    go_enter Try.func14, Try.ntmps14
    go_wp2_with (first | (go_at_call 29; (with_reducible refine hH.out.mono ?_); rintro e z ⟨rfl, rfl⟩) | (go_at_call 29; (with_reducible refine hH2.out.mono ?_); rintro e z ⟨rfl, rfl⟩))
    go_ret
    exact hsame.out
  rw [if_pos ⟨rfl, rfl, hqv, by omega, by omega⟩]
  obtain ⟨i, j, rfl, rfl, hi, hj⟩ := LM.has_nat hh
  obtain ⟨i', k, hii, rfl, hi', hk⟩ := LM.has_nat hh2
  clear hii hi'
  simp only [Int.toNat_natCast]
  have hjk : j ≠ k := by omega
  have c1 := h.c1
  have nk := h.nos.cell hk
  have hiz : (i : Int) < (l.nm : Int) := by omega
  have hjz : (j : Int) < (l.nc : Int) := by omega
  have hkz : (k : Int) < (l.nc : Int) := by omega
  have hnk0 := hl.n k
  by_cases hr : l.N k < given
  · rw [if_pos hr]
    replace hh := Lib.hid hh
    replace hh2 := Lib.hid hh2
    clear h hl
    go_enter Try.func14, Try.ntmps14
    go_wp2_with (first | (go_at_call 29; (with_reducible refine hH.out.mono ?_); rintro e z ⟨rfl, rfl⟩) | (go_at_call 29; (with_reducible refine hH2.out.mono ?_); rintro e z ⟨rfl, rfl⟩))
    go_ret
    exact hrisk.out
  rw [if_neg hr]
  have hb0 := hl.b i j
  have hn0 := hl.n j
  have hbk := hl.b i k
  have ofX := Lib.hid fun w => of_any (l.B i j) w hb0.1 hb0.2
  have ofN := Lib.hid fun w => of_any (l.N j) w hn0.1 hn0.2
  have ofK := Lib.hid fun w => of_any (l.B i k) w hbk.1 hbk.2
  have ofA := Lib.hid fun w => of_any got w hg.1 hg.2
  have ofG := Lib.hid fun w => of_any given w hv.1 hv.2
  have esub : l.B i k - given = l.B i k + -given := Int.sub_eq_add_neg
  rw [esub]
  replace esub := Lib.hid esub
  have c0 := h.c0
  have r0 := h.row hi
  have x0 := (h.bal i hi).cell hj
  have hR := Lib.hid h
  have hK := Lib.hid (Kp.refl P w)
  replace hh := Lib.hid hh
  replace hh2 := Lib.hid hh2
  clear h
  by_cases hx : In64 (l.B i j + got)
  · by_cases hn : In64 (l.N j + got)
    · by_cases hk3 : In64 (l.B i k + -given)
      · have fitX := Lib.hid (fitB_yes hx)
        have fitN := Lib.hid (fitB_yes hn)
        have fitK := Lib.hid (fitB_yes hk3)
        rw [if_pos ⟨hx, hn, hk3⟩]
        go_enter Try.func14, Try.ntmps14
        go_upto_region 5 with (first | (go_at_call 29; (with_reducible refine hH.out.mono ?_); rintro e z ⟨rfl, rfl⟩) | (go_at_call 29; (with_reducible refine hH2.out.mono ?_); rintro e z ⟨rfl, rfl⟩))
        go_wp2_with fail
        with_reducible refine (ofX.out _).mono ?_
        rintro e wap ⟨vap, rfl, iap, bap⟩
        replace iap := Lib.hid iap
        replace bap := Lib.hid bap
        go_wp2_with fail
        with_reducible refine (ofA.out _).mono ?_
        rintro e waq ⟨vaq, rfl, iaq, baq⟩
        have jap := Lib.hid (iap.out.kept baq)
        replace iaq := Lib.hid iaq
        replace baq := Lib.hid baq
        go_wp2_with fail
        with_reducible refine (addB_any vap vaq 5 _ _ waq jap.out iaq.out (by omega)).mono ?_
        rintro e war ⟨var, rfl, iar, bar⟩
        replace iar := Lib.hid iar
        replace bar := Lib.hid bar
        go_wp2_with fail
        with_reducible refine (fitX.out _ _ iar.out).mono ?_
        rintro e w4 ⟨rfl, bas⟩
        have Ba : Below w.heap.size w w4 := (((bap.out.trans (baq.out.mono bap.out.size)).trans (bar.out.mono (bap.out.trans (baq.out.mono bap.out.size)).size)).trans (bas.mono ((bap.out.trans (baq.out.mono bap.out.size)).trans (bar.out.mono (bap.out.trans (baq.out.mono bap.out.size)).size)).size))
        have hR := hR.out.below Ba
        have hK := hK.out.trans (Kp.of_below Ba)
        replace bas := Lib.hid bas
        replace Ba := Lib.hid Ba
        clear c0 r0 x0 c1 nk
        have c1 := hR.c1
        have n0 := hR.nos.cell hj
        replace hR := Lib.hid hR
        replace hK := Lib.hid hK
        go_wp2_with fail
        with_reducible refine (ofN.out _).mono ?_
        rintro e wbp ⟨vbp, rfl, ibp, bbp⟩
        replace ibp := Lib.hid ibp
        replace bbp := Lib.hid bbp
        go_wp2_with fail
        with_reducible refine (ofA.out _).mono ?_
        rintro e wbq ⟨vbq, rfl, ibq, bbq⟩
        have jbp := Lib.hid (ibp.out.kept bbq)
        replace ibq := Lib.hid ibq
        replace bbq := Lib.hid bbq
        go_wp2_with fail
        with_reducible refine (addB_any vbp vbq 5 _ _ wbq jbp.out ibq.out (by omega)).mono ?_
        rintro e wbr ⟨vbr, rfl, ibr, bbr⟩
        replace ibr := Lib.hid ibr
        replace bbr := Lib.hid bbr
        go_wp2_with fail
        with_reducible refine (fitN.out _ _ ibr.out).mono ?_
        rintro e w8 ⟨rfl, bbs⟩
        have Bb : Below w4.heap.size w4 w8 := (((bbp.out.trans (bbq.out.mono bbp.out.size)).trans (bbr.out.mono (bbp.out.trans (bbq.out.mono bbp.out.size)).size)).trans (bbs.mono ((bbp.out.trans (bbq.out.mono bbp.out.size)).trans (bbr.out.mono (bbp.out.trans (bbq.out.mono bbp.out.size)).size)).size))
        have hR := hR.out.below Bb
        have hK := hK.out.trans (Kp.of_below Bb)
        replace bbs := Lib.hid bbs
        replace Bb := Lib.hid Bb
        clear c1 n0
        have c0 := hR.c0
        have r0 := hR.row hi
        have xk := (hR.bal i hi).cell hk
        replace hR := Lib.hid hR
        replace hK := Lib.hid hK
        go_wp2_with fail
        with_reducible refine (ofK.out _).mono ?_
        rintro e wcp ⟨vcp, rfl, icp, bcp⟩
        replace icp := Lib.hid icp
        replace bcp := Lib.hid bcp
        go_wp2_with fail
        with_reducible refine (ofG.out _).mono ?_
        rintro e wcq ⟨vcq, rfl, icq, bcq⟩
        have jcp := Lib.hid (icp.out.kept bcq)
        replace icq := Lib.hid icq
        replace bcq := Lib.hid bcq
        go_wp2_with fail
        with_reducible refine (turned_any vcq 5 _ wcq icq.out (by omega)).mono ?_
        rintro e wct ⟨vct, rfl, ict, bct⟩
        replace jcp := Lib.hid (jcp.out.kept bct)
        replace ict := Lib.hid ict
        replace bct := Lib.hid bct
        go_wp2_with fail
        with_reducible refine (addB_any vcp vct 5 _ _ wct jcp.out ict.out (by omega)).mono ?_
        rintro e wcr ⟨vcr, rfl, icr, bcr⟩
        replace icr := Lib.hid icr
        replace bcr := Lib.hid bcr
        go_wp2_with fail
        with_reducible refine (fitK.out _ _ icr.out).mono ?_
        rintro e w12 ⟨rfl, bcs⟩
        have Bc : Below w8.heap.size w8 w12 := ((((bcp.out.trans (bcq.out.mono bcp.out.size)).trans (bct.out.mono (bcp.out.trans (bcq.out.mono bcp.out.size)).size)).trans (bcr.out.mono ((bcp.out.trans (bcq.out.mono bcp.out.size)).trans (bct.out.mono (bcp.out.trans (bcq.out.mono bcp.out.size)).size)).size)).trans (bcs.mono (((bcp.out.trans (bcq.out.mono bcp.out.size)).trans (bct.out.mono (bcp.out.trans (bcq.out.mono bcp.out.size)).size)).trans (bcr.out.mono ((bcp.out.trans (bcq.out.mono bcp.out.size)).trans (bct.out.mono (bcp.out.trans (bcq.out.mono bcp.out.size)).size)).size)).size))
        have hR := hR.out.below Bc
        have hK := hK.out.trans (Kp.of_below Bc)
        replace bcs := Lib.hid bcs
        replace Bc := Lib.hid Bc
        clear c0 r0 xk
        have c0 := hR.c0
        have r0 := hR.row hi
        have x0 := (hR.bal i hi).cell hj
        have fx := (hR.bal i hi).free j
        have hR2 := hR.setB hi hj (l.B i j + got)
        have hK2 := hK.setCell (a := w) (p := ⟨g i, j, none⟩) (.inl (hR.own.2.2.2 i hi)) (.int .i64 (l.B i j + got))
        replace hR := Lib.hid hR
        replace hK := Lib.hid hK
        go_upto_region 11 with (fail)
        generalize w12.setCell ⟨g i, j, none⟩ (.int .i64 (l.B i j + got)) = W1 at *
        clear c0 r0 x0 fx
        have c1 := hR2.c1
        have n0 := hR2.nos.cell hj
        have fn := hR2.nos.free j
        have hR3 := hR2.setN hj (l.N j + got)
        have hK3 := hK2.setCell (a := w) (p := ⟨gN, j, none⟩) (.inl hR2.own.2.2.1) (.int .i64 (l.N j + got))
        replace hR2 := Lib.hid hR2
        replace hK2 := Lib.hid hK2
        go_upto_region 12 with (fail)
        generalize W1.setCell ⟨gN, j, none⟩ (.int .i64 (l.N j + got)) = W2 at *
        clear c1 n0 fn
        have c0 := hR3.c0
        have r0 := hR3.row hi
        have fk := (hR3.bal i hi).free k
        have xk0 := (hR3.bal i hi).cell hk
        have hR4 := hR3.setB hi hk (l.B i k + -given)
        have hK4 := hK3.setCell (a := w) (p := ⟨g i, k, none⟩) (.inl (hR3.own.2.2.2 i hi)) (.int .i64 (l.B i k + -given))
        replace hR3 := Lib.hid hR3
        replace hK3 := Lib.hid hK3
        go_upto_region 13 with (fail)
        generalize W2.setCell ⟨g i, k, none⟩ (.int .i64 (l.B i k + -given)) = W3 at *
        clear c0 r0 fk xk0
        have c1 := hR4.c1
        have nk := hR4.nos.cell hk
        have fnk := hR4.nos.free k
        have enk : upd l.N j (l.N j + got) k = l.N k := upd_other _ _ (Ne.symm hjk)
        have nk2 : W3.cell? ⟨gN, k, none⟩ = some (.int .i64 (l.N k)) := nk.trans (by show some (Value.int .i64 (upd l.N j (l.N j + got) k)) = _; rw [enk])
        clear nk
        have hR5 := (hR4.setN hk (l.N k - given)).drewN 1
        have hK5 := (hK4.setCell (a := w) (p := ⟨gN, k, none⟩) (.inl hR4.own.2.2.1) (.int .i64 (l.N k - given))).drew
        unfold In64 at hnk0 hv
        have hw : IntKind.i64.wrap (l.N k - given) = l.N k - given := by rw [IntKind.wrap_i64] <;> omega
        replace hR4 := Lib.hid hR4
        replace hK4 := Lib.hid hK4
        replace hR5 := Lib.hid hR5
        replace hK5 := Lib.hid hK5
        replace enk := Lib.hid enk
        go_still_tail 15, (by kernel_rfl)
        change wpList _ _ _ _ _ (World.drew _)
        go_wp2_with fail
        go_ret
        exact ⟨rfl, RL.of hR5.out, hK5.out⟩
      · have fitX := Lib.hid (fitB_yes hx)
        have fitN := Lib.hid (fitB_yes hn)
        have fitK := Lib.hid (fitB_no hk3)
        rw [if_neg (fun e => hk3 e.2.2)]
        go_enter Try.func14, Try.ntmps14
        go_upto_region 5 with (first | (go_at_call 29; (with_reducible refine hH.out.mono ?_); rintro e z ⟨rfl, rfl⟩) | (go_at_call 29; (with_reducible refine hH2.out.mono ?_); rintro e z ⟨rfl, rfl⟩))
        go_wp2_with fail
        with_reducible refine (ofX.out _).mono ?_
        rintro e wap ⟨vap, rfl, iap, bap⟩
        replace iap := Lib.hid iap
        replace bap := Lib.hid bap
        go_wp2_with fail
        with_reducible refine (ofA.out _).mono ?_
        rintro e waq ⟨vaq, rfl, iaq, baq⟩
        have jap := Lib.hid (iap.out.kept baq)
        replace iaq := Lib.hid iaq
        replace baq := Lib.hid baq
        go_wp2_with fail
        with_reducible refine (addB_any vap vaq 5 _ _ waq jap.out iaq.out (by omega)).mono ?_
        rintro e war ⟨var, rfl, iar, bar⟩
        replace iar := Lib.hid iar
        replace bar := Lib.hid bar
        go_wp2_with fail
        with_reducible refine (fitX.out _ _ iar.out).mono ?_
        rintro e w4 ⟨rfl, bas⟩
        have Ba : Below w.heap.size w w4 := (((bap.out.trans (baq.out.mono bap.out.size)).trans (bar.out.mono (bap.out.trans (baq.out.mono bap.out.size)).size)).trans (bas.mono ((bap.out.trans (baq.out.mono bap.out.size)).trans (bar.out.mono (bap.out.trans (baq.out.mono bap.out.size)).size)).size))
        have hR := hR.out.below Ba
        have hK := hK.out.trans (Kp.of_below Ba)
        replace bas := Lib.hid bas
        replace Ba := Lib.hid Ba
        clear c0 r0 x0 c1 nk
        have c1 := hR.c1
        have n0 := hR.nos.cell hj
        replace hR := Lib.hid hR
        replace hK := Lib.hid hK
        go_wp2_with fail
        with_reducible refine (ofN.out _).mono ?_
        rintro e wbp ⟨vbp, rfl, ibp, bbp⟩
        replace ibp := Lib.hid ibp
        replace bbp := Lib.hid bbp
        go_wp2_with fail
        with_reducible refine (ofA.out _).mono ?_
        rintro e wbq ⟨vbq, rfl, ibq, bbq⟩
        have jbp := Lib.hid (ibp.out.kept bbq)
        replace ibq := Lib.hid ibq
        replace bbq := Lib.hid bbq
        go_wp2_with fail
        with_reducible refine (addB_any vbp vbq 5 _ _ wbq jbp.out ibq.out (by omega)).mono ?_
        rintro e wbr ⟨vbr, rfl, ibr, bbr⟩
        replace ibr := Lib.hid ibr
        replace bbr := Lib.hid bbr
        go_wp2_with fail
        with_reducible refine (fitN.out _ _ ibr.out).mono ?_
        rintro e w8 ⟨rfl, bbs⟩
        have Bb : Below w4.heap.size w4 w8 := (((bbp.out.trans (bbq.out.mono bbp.out.size)).trans (bbr.out.mono (bbp.out.trans (bbq.out.mono bbp.out.size)).size)).trans (bbs.mono ((bbp.out.trans (bbq.out.mono bbp.out.size)).trans (bbr.out.mono (bbp.out.trans (bbq.out.mono bbp.out.size)).size)).size))
        have hR := hR.out.below Bb
        have hK := hK.out.trans (Kp.of_below Bb)
        replace bbs := Lib.hid bbs
        replace Bb := Lib.hid Bb
        clear c1 n0
        have c0 := hR.c0
        have r0 := hR.row hi
        have xk := (hR.bal i hi).cell hk
        replace hR := Lib.hid hR
        replace hK := Lib.hid hK
        go_wp2_with fail
        with_reducible refine (ofK.out _).mono ?_
        rintro e wcp ⟨vcp, rfl, icp, bcp⟩
        replace icp := Lib.hid icp
        replace bcp := Lib.hid bcp
        go_wp2_with fail
        with_reducible refine (ofG.out _).mono ?_
        rintro e wcq ⟨vcq, rfl, icq, bcq⟩
        have jcp := Lib.hid (icp.out.kept bcq)
        replace icq := Lib.hid icq
        replace bcq := Lib.hid bcq
        go_wp2_with fail
        with_reducible refine (turned_any vcq 5 _ wcq icq.out (by omega)).mono ?_
        rintro e wct ⟨vct, rfl, ict, bct⟩
        replace jcp := Lib.hid (jcp.out.kept bct)
        replace ict := Lib.hid ict
        replace bct := Lib.hid bct
        go_wp2_with fail
        with_reducible refine (addB_any vcp vct 5 _ _ wct jcp.out ict.out (by omega)).mono ?_
        rintro e wcr ⟨vcr, rfl, icr, bcr⟩
        replace icr := Lib.hid icr
        replace bcr := Lib.hid bcr
        go_wp2_with fail
        with_reducible refine (fitK.out _ _ icr.out).mono ?_
        rintro e w12 ⟨rfl, bcs⟩
        have Bc : Below w8.heap.size w8 w12 := ((((bcp.out.trans (bcq.out.mono bcp.out.size)).trans (bct.out.mono (bcp.out.trans (bcq.out.mono bcp.out.size)).size)).trans (bcr.out.mono ((bcp.out.trans (bcq.out.mono bcp.out.size)).trans (bct.out.mono (bcp.out.trans (bcq.out.mono bcp.out.size)).size)).size)).trans (bcs.mono (((bcp.out.trans (bcq.out.mono bcp.out.size)).trans (bct.out.mono (bcp.out.trans (bcq.out.mono bcp.out.size)).size)).trans (bcr.out.mono ((bcp.out.trans (bcq.out.mono bcp.out.size)).trans (bct.out.mono (bcp.out.trans (bcq.out.mono bcp.out.size)).size)).size)).size))
        have hR := hR.out.below Bc
        have hK := hK.out.trans (Kp.of_below Bc)
        replace bcs := Lib.hid bcs
        replace Bc := Lib.hid Bc
        replace hR := Lib.hid hR
        replace hK := Lib.hid hK
        go_wp2_with fail
        go_ret
        exact ⟨rfl, RL.of hR.out, hK.out⟩
    · by_cases hk3 : In64 (l.B i k + -given)
      · have fitX := Lib.hid (fitB_yes hx)
        have fitN := Lib.hid (fitB_no hn)
        have fitK := Lib.hid (fitB_yes hk3)
        rw [if_neg (fun e => hn e.2.1)]
        go_enter Try.func14, Try.ntmps14
        go_upto_region 5 with (first | (go_at_call 29; (with_reducible refine hH.out.mono ?_); rintro e z ⟨rfl, rfl⟩) | (go_at_call 29; (with_reducible refine hH2.out.mono ?_); rintro e z ⟨rfl, rfl⟩))
        go_wp2_with fail
        with_reducible refine (ofX.out _).mono ?_
        rintro e wap ⟨vap, rfl, iap, bap⟩
        replace iap := Lib.hid iap
        replace bap := Lib.hid bap
        go_wp2_with fail
        with_reducible refine (ofA.out _).mono ?_
        rintro e waq ⟨vaq, rfl, iaq, baq⟩
        have jap := Lib.hid (iap.out.kept baq)
        replace iaq := Lib.hid iaq
        replace baq := Lib.hid baq
        go_wp2_with fail
        with_reducible refine (addB_any vap vaq 5 _ _ waq jap.out iaq.out (by omega)).mono ?_
        rintro e war ⟨var, rfl, iar, bar⟩
        replace iar := Lib.hid iar
        replace bar := Lib.hid bar
        go_wp2_with fail
        with_reducible refine (fitX.out _ _ iar.out).mono ?_
        rintro e w4 ⟨rfl, bas⟩
        have Ba : Below w.heap.size w w4 := (((bap.out.trans (baq.out.mono bap.out.size)).trans (bar.out.mono (bap.out.trans (baq.out.mono bap.out.size)).size)).trans (bas.mono ((bap.out.trans (baq.out.mono bap.out.size)).trans (bar.out.mono (bap.out.trans (baq.out.mono bap.out.size)).size)).size))
        have hR := hR.out.below Ba
        have hK := hK.out.trans (Kp.of_below Ba)
        replace bas := Lib.hid bas
        replace Ba := Lib.hid Ba
        clear c0 r0 x0 c1 nk
        have c1 := hR.c1
        have n0 := hR.nos.cell hj
        replace hR := Lib.hid hR
        replace hK := Lib.hid hK
        go_wp2_with fail
        with_reducible refine (ofN.out _).mono ?_
        rintro e wbp ⟨vbp, rfl, ibp, bbp⟩
        replace ibp := Lib.hid ibp
        replace bbp := Lib.hid bbp
        go_wp2_with fail
        with_reducible refine (ofA.out _).mono ?_
        rintro e wbq ⟨vbq, rfl, ibq, bbq⟩
        have jbp := Lib.hid (ibp.out.kept bbq)
        replace ibq := Lib.hid ibq
        replace bbq := Lib.hid bbq
        go_wp2_with fail
        with_reducible refine (addB_any vbp vbq 5 _ _ wbq jbp.out ibq.out (by omega)).mono ?_
        rintro e wbr ⟨vbr, rfl, ibr, bbr⟩
        replace ibr := Lib.hid ibr
        replace bbr := Lib.hid bbr
        go_wp2_with fail
        with_reducible refine (fitN.out _ _ ibr.out).mono ?_
        rintro e w8 ⟨rfl, bbs⟩
        have Bb : Below w4.heap.size w4 w8 := (((bbp.out.trans (bbq.out.mono bbp.out.size)).trans (bbr.out.mono (bbp.out.trans (bbq.out.mono bbp.out.size)).size)).trans (bbs.mono ((bbp.out.trans (bbq.out.mono bbp.out.size)).trans (bbr.out.mono (bbp.out.trans (bbq.out.mono bbp.out.size)).size)).size))
        have hR := hR.out.below Bb
        have hK := hK.out.trans (Kp.of_below Bb)
        replace bbs := Lib.hid bbs
        replace Bb := Lib.hid Bb
        clear c1 n0
        have c0 := hR.c0
        have r0 := hR.row hi
        have xk := (hR.bal i hi).cell hk
        replace hR := Lib.hid hR
        replace hK := Lib.hid hK
        go_wp2_with fail
        with_reducible refine (ofK.out _).mono ?_
        rintro e wcp ⟨vcp, rfl, icp, bcp⟩
        replace icp := Lib.hid icp
        replace bcp := Lib.hid bcp
        go_wp2_with fail
        with_reducible refine (ofG.out _).mono ?_
        rintro e wcq ⟨vcq, rfl, icq, bcq⟩
        have jcp := Lib.hid (icp.out.kept bcq)
        replace icq := Lib.hid icq
        replace bcq := Lib.hid bcq
        go_wp2_with fail
        with_reducible refine (turned_any vcq 5 _ wcq icq.out (by omega)).mono ?_
        rintro e wct ⟨vct, rfl, ict, bct⟩
        replace jcp := Lib.hid (jcp.out.kept bct)
        replace ict := Lib.hid ict
        replace bct := Lib.hid bct
        go_wp2_with fail
        with_reducible refine (addB_any vcp vct 5 _ _ wct jcp.out ict.out (by omega)).mono ?_
        rintro e wcr ⟨vcr, rfl, icr, bcr⟩
        replace icr := Lib.hid icr
        replace bcr := Lib.hid bcr
        go_wp2_with fail
        with_reducible refine (fitK.out _ _ icr.out).mono ?_
        rintro e w12 ⟨rfl, bcs⟩
        have Bc : Below w8.heap.size w8 w12 := ((((bcp.out.trans (bcq.out.mono bcp.out.size)).trans (bct.out.mono (bcp.out.trans (bcq.out.mono bcp.out.size)).size)).trans (bcr.out.mono ((bcp.out.trans (bcq.out.mono bcp.out.size)).trans (bct.out.mono (bcp.out.trans (bcq.out.mono bcp.out.size)).size)).size)).trans (bcs.mono (((bcp.out.trans (bcq.out.mono bcp.out.size)).trans (bct.out.mono (bcp.out.trans (bcq.out.mono bcp.out.size)).size)).trans (bcr.out.mono ((bcp.out.trans (bcq.out.mono bcp.out.size)).trans (bct.out.mono (bcp.out.trans (bcq.out.mono bcp.out.size)).size)).size)).size))
        have hR := hR.out.below Bc
        have hK := hK.out.trans (Kp.of_below Bc)
        replace bcs := Lib.hid bcs
        replace Bc := Lib.hid Bc
        replace hR := Lib.hid hR
        replace hK := Lib.hid hK
        go_wp2_with fail
        go_ret
        exact ⟨rfl, RL.of hR.out, hK.out⟩
      · have fitX := Lib.hid (fitB_yes hx)
        have fitN := Lib.hid (fitB_no hn)
        have fitK := Lib.hid (fitB_no hk3)
        rw [if_neg (fun e => hn e.2.1)]
        go_enter Try.func14, Try.ntmps14
        go_upto_region 5 with (first | (go_at_call 29; (with_reducible refine hH.out.mono ?_); rintro e z ⟨rfl, rfl⟩) | (go_at_call 29; (with_reducible refine hH2.out.mono ?_); rintro e z ⟨rfl, rfl⟩))
        go_wp2_with fail
        with_reducible refine (ofX.out _).mono ?_
        rintro e wap ⟨vap, rfl, iap, bap⟩
        replace iap := Lib.hid iap
        replace bap := Lib.hid bap
        go_wp2_with fail
        with_reducible refine (ofA.out _).mono ?_
        rintro e waq ⟨vaq, rfl, iaq, baq⟩
        have jap := Lib.hid (iap.out.kept baq)
        replace iaq := Lib.hid iaq
        replace baq := Lib.hid baq
        go_wp2_with fail
        with_reducible refine (addB_any vap vaq 5 _ _ waq jap.out iaq.out (by omega)).mono ?_
        rintro e war ⟨var, rfl, iar, bar⟩
        replace iar := Lib.hid iar
        replace bar := Lib.hid bar
        go_wp2_with fail
        with_reducible refine (fitX.out _ _ iar.out).mono ?_
        rintro e w4 ⟨rfl, bas⟩
        have Ba : Below w.heap.size w w4 := (((bap.out.trans (baq.out.mono bap.out.size)).trans (bar.out.mono (bap.out.trans (baq.out.mono bap.out.size)).size)).trans (bas.mono ((bap.out.trans (baq.out.mono bap.out.size)).trans (bar.out.mono (bap.out.trans (baq.out.mono bap.out.size)).size)).size))
        have hR := hR.out.below Ba
        have hK := hK.out.trans (Kp.of_below Ba)
        replace bas := Lib.hid bas
        replace Ba := Lib.hid Ba
        clear c0 r0 x0 c1 nk
        have c1 := hR.c1
        have n0 := hR.nos.cell hj
        replace hR := Lib.hid hR
        replace hK := Lib.hid hK
        go_wp2_with fail
        with_reducible refine (ofN.out _).mono ?_
        rintro e wbp ⟨vbp, rfl, ibp, bbp⟩
        replace ibp := Lib.hid ibp
        replace bbp := Lib.hid bbp
        go_wp2_with fail
        with_reducible refine (ofA.out _).mono ?_
        rintro e wbq ⟨vbq, rfl, ibq, bbq⟩
        have jbp := Lib.hid (ibp.out.kept bbq)
        replace ibq := Lib.hid ibq
        replace bbq := Lib.hid bbq
        go_wp2_with fail
        with_reducible refine (addB_any vbp vbq 5 _ _ wbq jbp.out ibq.out (by omega)).mono ?_
        rintro e wbr ⟨vbr, rfl, ibr, bbr⟩
        replace ibr := Lib.hid ibr
        replace bbr := Lib.hid bbr
        go_wp2_with fail
        with_reducible refine (fitN.out _ _ ibr.out).mono ?_
        rintro e w8 ⟨rfl, bbs⟩
        have Bb : Below w4.heap.size w4 w8 := (((bbp.out.trans (bbq.out.mono bbp.out.size)).trans (bbr.out.mono (bbp.out.trans (bbq.out.mono bbp.out.size)).size)).trans (bbs.mono ((bbp.out.trans (bbq.out.mono bbp.out.size)).trans (bbr.out.mono (bbp.out.trans (bbq.out.mono bbp.out.size)).size)).size))
        have hR := hR.out.below Bb
        have hK := hK.out.trans (Kp.of_below Bb)
        replace bbs := Lib.hid bbs
        replace Bb := Lib.hid Bb
        clear c1 n0
        have c0 := hR.c0
        have r0 := hR.row hi
        have xk := (hR.bal i hi).cell hk
        replace hR := Lib.hid hR
        replace hK := Lib.hid hK
        go_wp2_with fail
        with_reducible refine (ofK.out _).mono ?_
        rintro e wcp ⟨vcp, rfl, icp, bcp⟩
        replace icp := Lib.hid icp
        replace bcp := Lib.hid bcp
        go_wp2_with fail
        with_reducible refine (ofG.out _).mono ?_
        rintro e wcq ⟨vcq, rfl, icq, bcq⟩
        have jcp := Lib.hid (icp.out.kept bcq)
        replace icq := Lib.hid icq
        replace bcq := Lib.hid bcq
        go_wp2_with fail
        with_reducible refine (turned_any vcq 5 _ wcq icq.out (by omega)).mono ?_
        rintro e wct ⟨vct, rfl, ict, bct⟩
        replace jcp := Lib.hid (jcp.out.kept bct)
        replace ict := Lib.hid ict
        replace bct := Lib.hid bct
        go_wp2_with fail
        with_reducible refine (addB_any vcp vct 5 _ _ wct jcp.out ict.out (by omega)).mono ?_
        rintro e wcr ⟨vcr, rfl, icr, bcr⟩
        replace icr := Lib.hid icr
        replace bcr := Lib.hid bcr
        go_wp2_with fail
        with_reducible refine (fitK.out _ _ icr.out).mono ?_
        rintro e w12 ⟨rfl, bcs⟩
        have Bc : Below w8.heap.size w8 w12 := ((((bcp.out.trans (bcq.out.mono bcp.out.size)).trans (bct.out.mono (bcp.out.trans (bcq.out.mono bcp.out.size)).size)).trans (bcr.out.mono ((bcp.out.trans (bcq.out.mono bcp.out.size)).trans (bct.out.mono (bcp.out.trans (bcq.out.mono bcp.out.size)).size)).size)).trans (bcs.mono (((bcp.out.trans (bcq.out.mono bcp.out.size)).trans (bct.out.mono (bcp.out.trans (bcq.out.mono bcp.out.size)).size)).trans (bcr.out.mono ((bcp.out.trans (bcq.out.mono bcp.out.size)).trans (bct.out.mono (bcp.out.trans (bcq.out.mono bcp.out.size)).size)).size)).size))
        have hR := hR.out.below Bc
        have hK := hK.out.trans (Kp.of_below Bc)
        replace bcs := Lib.hid bcs
        replace Bc := Lib.hid Bc
        replace hR := Lib.hid hR
        replace hK := Lib.hid hK
        go_wp2_with fail
        go_ret
        exact ⟨rfl, RL.of hR.out, hK.out⟩
  · by_cases hn : In64 (l.N j + got)
    · by_cases hk3 : In64 (l.B i k + -given)
      · have fitX := Lib.hid (fitB_no hx)
        have fitN := Lib.hid (fitB_yes hn)
        have fitK := Lib.hid (fitB_yes hk3)
        rw [if_neg (fun e => hx e.1)]
        go_enter Try.func14, Try.ntmps14
        go_upto_region 5 with (first | (go_at_call 29; (with_reducible refine hH.out.mono ?_); rintro e z ⟨rfl, rfl⟩) | (go_at_call 29; (with_reducible refine hH2.out.mono ?_); rintro e z ⟨rfl, rfl⟩))
        go_wp2_with fail
        with_reducible refine (ofX.out _).mono ?_
        rintro e wap ⟨vap, rfl, iap, bap⟩
        replace iap := Lib.hid iap
        replace bap := Lib.hid bap
        go_wp2_with fail
        with_reducible refine (ofA.out _).mono ?_
        rintro e waq ⟨vaq, rfl, iaq, baq⟩
        have jap := Lib.hid (iap.out.kept baq)
        replace iaq := Lib.hid iaq
        replace baq := Lib.hid baq
        go_wp2_with fail
        with_reducible refine (addB_any vap vaq 5 _ _ waq jap.out iaq.out (by omega)).mono ?_
        rintro e war ⟨var, rfl, iar, bar⟩
        replace iar := Lib.hid iar
        replace bar := Lib.hid bar
        go_wp2_with fail
        with_reducible refine (fitX.out _ _ iar.out).mono ?_
        rintro e w4 ⟨rfl, bas⟩
        have Ba : Below w.heap.size w w4 := (((bap.out.trans (baq.out.mono bap.out.size)).trans (bar.out.mono (bap.out.trans (baq.out.mono bap.out.size)).size)).trans (bas.mono ((bap.out.trans (baq.out.mono bap.out.size)).trans (bar.out.mono (bap.out.trans (baq.out.mono bap.out.size)).size)).size))
        have hR := hR.out.below Ba
        have hK := hK.out.trans (Kp.of_below Ba)
        replace bas := Lib.hid bas
        replace Ba := Lib.hid Ba
        clear c0 r0 x0 c1 nk
        have c1 := hR.c1
        have n0 := hR.nos.cell hj
        replace hR := Lib.hid hR
        replace hK := Lib.hid hK
        go_wp2_with fail
        with_reducible refine (ofN.out _).mono ?_
        rintro e wbp ⟨vbp, rfl, ibp, bbp⟩
        replace ibp := Lib.hid ibp
        replace bbp := Lib.hid bbp
        go_wp2_with fail
        with_reducible refine (ofA.out _).mono ?_
        rintro e wbq ⟨vbq, rfl, ibq, bbq⟩
        have jbp := Lib.hid (ibp.out.kept bbq)
        replace ibq := Lib.hid ibq
        replace bbq := Lib.hid bbq
        go_wp2_with fail
        with_reducible refine (addB_any vbp vbq 5 _ _ wbq jbp.out ibq.out (by omega)).mono ?_
        rintro e wbr ⟨vbr, rfl, ibr, bbr⟩
        replace ibr := Lib.hid ibr
        replace bbr := Lib.hid bbr
        go_wp2_with fail
        with_reducible refine (fitN.out _ _ ibr.out).mono ?_
        rintro e w8 ⟨rfl, bbs⟩
        have Bb : Below w4.heap.size w4 w8 := (((bbp.out.trans (bbq.out.mono bbp.out.size)).trans (bbr.out.mono (bbp.out.trans (bbq.out.mono bbp.out.size)).size)).trans (bbs.mono ((bbp.out.trans (bbq.out.mono bbp.out.size)).trans (bbr.out.mono (bbp.out.trans (bbq.out.mono bbp.out.size)).size)).size))
        have hR := hR.out.below Bb
        have hK := hK.out.trans (Kp.of_below Bb)
        replace bbs := Lib.hid bbs
        replace Bb := Lib.hid Bb
        clear c1 n0
        have c0 := hR.c0
        have r0 := hR.row hi
        have xk := (hR.bal i hi).cell hk
        replace hR := Lib.hid hR
        replace hK := Lib.hid hK
        go_wp2_with fail
        with_reducible refine (ofK.out _).mono ?_
        rintro e wcp ⟨vcp, rfl, icp, bcp⟩
        replace icp := Lib.hid icp
        replace bcp := Lib.hid bcp
        go_wp2_with fail
        with_reducible refine (ofG.out _).mono ?_
        rintro e wcq ⟨vcq, rfl, icq, bcq⟩
        have jcp := Lib.hid (icp.out.kept bcq)
        replace icq := Lib.hid icq
        replace bcq := Lib.hid bcq
        go_wp2_with fail
        with_reducible refine (turned_any vcq 5 _ wcq icq.out (by omega)).mono ?_
        rintro e wct ⟨vct, rfl, ict, bct⟩
        replace jcp := Lib.hid (jcp.out.kept bct)
        replace ict := Lib.hid ict
        replace bct := Lib.hid bct
        go_wp2_with fail
        with_reducible refine (addB_any vcp vct 5 _ _ wct jcp.out ict.out (by omega)).mono ?_
        rintro e wcr ⟨vcr, rfl, icr, bcr⟩
        replace icr := Lib.hid icr
        replace bcr := Lib.hid bcr
        go_wp2_with fail
        with_reducible refine (fitK.out _ _ icr.out).mono ?_
        rintro e w12 ⟨rfl, bcs⟩
        have Bc : Below w8.heap.size w8 w12 := ((((bcp.out.trans (bcq.out.mono bcp.out.size)).trans (bct.out.mono (bcp.out.trans (bcq.out.mono bcp.out.size)).size)).trans (bcr.out.mono ((bcp.out.trans (bcq.out.mono bcp.out.size)).trans (bct.out.mono (bcp.out.trans (bcq.out.mono bcp.out.size)).size)).size)).trans (bcs.mono (((bcp.out.trans (bcq.out.mono bcp.out.size)).trans (bct.out.mono (bcp.out.trans (bcq.out.mono bcp.out.size)).size)).trans (bcr.out.mono ((bcp.out.trans (bcq.out.mono bcp.out.size)).trans (bct.out.mono (bcp.out.trans (bcq.out.mono bcp.out.size)).size)).size)).size))
        have hR := hR.out.below Bc
        have hK := hK.out.trans (Kp.of_below Bc)
        replace bcs := Lib.hid bcs
        replace Bc := Lib.hid Bc
        replace hR := Lib.hid hR
        replace hK := Lib.hid hK
        go_wp2_with fail
        go_ret
        exact ⟨rfl, RL.of hR.out, hK.out⟩
      · have fitX := Lib.hid (fitB_no hx)
        have fitN := Lib.hid (fitB_yes hn)
        have fitK := Lib.hid (fitB_no hk3)
        rw [if_neg (fun e => hx e.1)]
        go_enter Try.func14, Try.ntmps14
        go_upto_region 5 with (first | (go_at_call 29; (with_reducible refine hH.out.mono ?_); rintro e z ⟨rfl, rfl⟩) | (go_at_call 29; (with_reducible refine hH2.out.mono ?_); rintro e z ⟨rfl, rfl⟩))
        go_wp2_with fail
        with_reducible refine (ofX.out _).mono ?_
        rintro e wap ⟨vap, rfl, iap, bap⟩
        replace iap := Lib.hid iap
        replace bap := Lib.hid bap
        go_wp2_with fail
        with_reducible refine (ofA.out _).mono ?_
        rintro e waq ⟨vaq, rfl, iaq, baq⟩
        have jap := Lib.hid (iap.out.kept baq)
        replace iaq := Lib.hid iaq
        replace baq := Lib.hid baq
        go_wp2_with fail
        with_reducible refine (addB_any vap vaq 5 _ _ waq jap.out iaq.out (by omega)).mono ?_
        rintro e war ⟨var, rfl, iar, bar⟩
        replace iar := Lib.hid iar
        replace bar := Lib.hid bar
        go_wp2_with fail
        with_reducible refine (fitX.out _ _ iar.out).mono ?_
        rintro e w4 ⟨rfl, bas⟩
        have Ba : Below w.heap.size w w4 := (((bap.out.trans (baq.out.mono bap.out.size)).trans (bar.out.mono (bap.out.trans (baq.out.mono bap.out.size)).size)).trans (bas.mono ((bap.out.trans (baq.out.mono bap.out.size)).trans (bar.out.mono (bap.out.trans (baq.out.mono bap.out.size)).size)).size))
        have hR := hR.out.below Ba
        have hK := hK.out.trans (Kp.of_below Ba)
        replace bas := Lib.hid bas
        replace Ba := Lib.hid Ba
        clear c0 r0 x0 c1 nk
        have c1 := hR.c1
        have n0 := hR.nos.cell hj
        replace hR := Lib.hid hR
        replace hK := Lib.hid hK
        go_wp2_with fail
        with_reducible refine (ofN.out _).mono ?_
        rintro e wbp ⟨vbp, rfl, ibp, bbp⟩
        replace ibp := Lib.hid ibp
        replace bbp := Lib.hid bbp
        go_wp2_with fail
        with_reducible refine (ofA.out _).mono ?_
        rintro e wbq ⟨vbq, rfl, ibq, bbq⟩
        have jbp := Lib.hid (ibp.out.kept bbq)
        replace ibq := Lib.hid ibq
        replace bbq := Lib.hid bbq
        go_wp2_with fail
        with_reducible refine (addB_any vbp vbq 5 _ _ wbq jbp.out ibq.out (by omega)).mono ?_
        rintro e wbr ⟨vbr, rfl, ibr, bbr⟩
        replace ibr := Lib.hid ibr
        replace bbr := Lib.hid bbr
        go_wp2_with fail
        with_reducible refine (fitN.out _ _ ibr.out).mono ?_
        rintro e w8 ⟨rfl, bbs⟩
        have Bb : Below w4.heap.size w4 w8 := (((bbp.out.trans (bbq.out.mono bbp.out.size)).trans (bbr.out.mono (bbp.out.trans (bbq.out.mono bbp.out.size)).size)).trans (bbs.mono ((bbp.out.trans (bbq.out.mono bbp.out.size)).trans (bbr.out.mono (bbp.out.trans (bbq.out.mono bbp.out.size)).size)).size))
        have hR := hR.out.below Bb
        have hK := hK.out.trans (Kp.of_below Bb)
        replace bbs := Lib.hid bbs
        replace Bb := Lib.hid Bb
        clear c1 n0
        have c0 := hR.c0
        have r0 := hR.row hi
        have xk := (hR.bal i hi).cell hk
        replace hR := Lib.hid hR
        replace hK := Lib.hid hK
        go_wp2_with fail
        with_reducible refine (ofK.out _).mono ?_
        rintro e wcp ⟨vcp, rfl, icp, bcp⟩
        replace icp := Lib.hid icp
        replace bcp := Lib.hid bcp
        go_wp2_with fail
        with_reducible refine (ofG.out _).mono ?_
        rintro e wcq ⟨vcq, rfl, icq, bcq⟩
        have jcp := Lib.hid (icp.out.kept bcq)
        replace icq := Lib.hid icq
        replace bcq := Lib.hid bcq
        go_wp2_with fail
        with_reducible refine (turned_any vcq 5 _ wcq icq.out (by omega)).mono ?_
        rintro e wct ⟨vct, rfl, ict, bct⟩
        replace jcp := Lib.hid (jcp.out.kept bct)
        replace ict := Lib.hid ict
        replace bct := Lib.hid bct
        go_wp2_with fail
        with_reducible refine (addB_any vcp vct 5 _ _ wct jcp.out ict.out (by omega)).mono ?_
        rintro e wcr ⟨vcr, rfl, icr, bcr⟩
        replace icr := Lib.hid icr
        replace bcr := Lib.hid bcr
        go_wp2_with fail
        with_reducible refine (fitK.out _ _ icr.out).mono ?_
        rintro e w12 ⟨rfl, bcs⟩
        have Bc : Below w8.heap.size w8 w12 := ((((bcp.out.trans (bcq.out.mono bcp.out.size)).trans (bct.out.mono (bcp.out.trans (bcq.out.mono bcp.out.size)).size)).trans (bcr.out.mono ((bcp.out.trans (bcq.out.mono bcp.out.size)).trans (bct.out.mono (bcp.out.trans (bcq.out.mono bcp.out.size)).size)).size)).trans (bcs.mono (((bcp.out.trans (bcq.out.mono bcp.out.size)).trans (bct.out.mono (bcp.out.trans (bcq.out.mono bcp.out.size)).size)).trans (bcr.out.mono ((bcp.out.trans (bcq.out.mono bcp.out.size)).trans (bct.out.mono (bcp.out.trans (bcq.out.mono bcp.out.size)).size)).size)).size))
        have hR := hR.out.below Bc
        have hK := hK.out.trans (Kp.of_below Bc)
        replace bcs := Lib.hid bcs
        replace Bc := Lib.hid Bc
        replace hR := Lib.hid hR
        replace hK := Lib.hid hK
        go_wp2_with fail
        go_ret
        exact ⟨rfl, RL.of hR.out, hK.out⟩
    · by_cases hk3 : In64 (l.B i k + -given)
      · have fitX := Lib.hid (fitB_no hx)
        have fitN := Lib.hid (fitB_no hn)
        have fitK := Lib.hid (fitB_yes hk3)
        rw [if_neg (fun e => hx e.1)]
        go_enter Try.func14, Try.ntmps14
        go_upto_region 5 with (first | (go_at_call 29; (with_reducible refine hH.out.mono ?_); rintro e z ⟨rfl, rfl⟩) | (go_at_call 29; (with_reducible refine hH2.out.mono ?_); rintro e z ⟨rfl, rfl⟩))
        go_wp2_with fail
        with_reducible refine (ofX.out _).mono ?_
        rintro e wap ⟨vap, rfl, iap, bap⟩
        replace iap := Lib.hid iap
        replace bap := Lib.hid bap
        go_wp2_with fail
        with_reducible refine (ofA.out _).mono ?_
        rintro e waq ⟨vaq, rfl, iaq, baq⟩
        have jap := Lib.hid (iap.out.kept baq)
        replace iaq := Lib.hid iaq
        replace baq := Lib.hid baq
        go_wp2_with fail
        with_reducible refine (addB_any vap vaq 5 _ _ waq jap.out iaq.out (by omega)).mono ?_
        rintro e war ⟨var, rfl, iar, bar⟩
        replace iar := Lib.hid iar
        replace bar := Lib.hid bar
        go_wp2_with fail
        with_reducible refine (fitX.out _ _ iar.out).mono ?_
        rintro e w4 ⟨rfl, bas⟩
        have Ba : Below w.heap.size w w4 := (((bap.out.trans (baq.out.mono bap.out.size)).trans (bar.out.mono (bap.out.trans (baq.out.mono bap.out.size)).size)).trans (bas.mono ((bap.out.trans (baq.out.mono bap.out.size)).trans (bar.out.mono (bap.out.trans (baq.out.mono bap.out.size)).size)).size))
        have hR := hR.out.below Ba
        have hK := hK.out.trans (Kp.of_below Ba)
        replace bas := Lib.hid bas
        replace Ba := Lib.hid Ba
        clear c0 r0 x0 c1 nk
        have c1 := hR.c1
        have n0 := hR.nos.cell hj
        replace hR := Lib.hid hR
        replace hK := Lib.hid hK
        go_wp2_with fail
        with_reducible refine (ofN.out _).mono ?_
        rintro e wbp ⟨vbp, rfl, ibp, bbp⟩
        replace ibp := Lib.hid ibp
        replace bbp := Lib.hid bbp
        go_wp2_with fail
        with_reducible refine (ofA.out _).mono ?_
        rintro e wbq ⟨vbq, rfl, ibq, bbq⟩
        have jbp := Lib.hid (ibp.out.kept bbq)
        replace ibq := Lib.hid ibq
        replace bbq := Lib.hid bbq
        go_wp2_with fail
        with_reducible refine (addB_any vbp vbq 5 _ _ wbq jbp.out ibq.out (by omega)).mono ?_
        rintro e wbr ⟨vbr, rfl, ibr, bbr⟩
        replace ibr := Lib.hid ibr
        replace bbr := Lib.hid bbr
        go_wp2_with fail
        with_reducible refine (fitN.out _ _ ibr.out).mono ?_
        rintro e w8 ⟨rfl, bbs⟩
        have Bb : Below w4.heap.size w4 w8 := (((bbp.out.trans (bbq.out.mono bbp.out.size)).trans (bbr.out.mono (bbp.out.trans (bbq.out.mono bbp.out.size)).size)).trans (bbs.mono ((bbp.out.trans (bbq.out.mono bbp.out.size)).trans (bbr.out.mono (bbp.out.trans (bbq.out.mono bbp.out.size)).size)).size))
        have hR := hR.out.below Bb
        have hK := hK.out.trans (Kp.of_below Bb)
        replace bbs := Lib.hid bbs
        replace Bb := Lib.hid Bb
        clear c1 n0
        have c0 := hR.c0
        have r0 := hR.row hi
        have xk := (hR.bal i hi).cell hk
        replace hR := Lib.hid hR
        replace hK := Lib.hid hK
        go_wp2_with fail
        with_reducible refine (ofK.out _).mono ?_
        rintro e wcp ⟨vcp, rfl, icp, bcp⟩
        replace icp := Lib.hid icp
        replace bcp := Lib.hid bcp
        go_wp2_with fail
        with_reducible refine (ofG.out _).mono ?_
        rintro e wcq ⟨vcq, rfl, icq, bcq⟩
        have jcp := Lib.hid (icp.out.kept bcq)
        replace icq := Lib.hid icq
        replace bcq := Lib.hid bcq
        go_wp2_with fail
        with_reducible refine (turned_any vcq 5 _ wcq icq.out (by omega)).mono ?_
        rintro e wct ⟨vct, rfl, ict, bct⟩
        replace jcp := Lib.hid (jcp.out.kept bct)
        replace ict := Lib.hid ict
        replace bct := Lib.hid bct
        go_wp2_with fail
        with_reducible refine (addB_any vcp vct 5 _ _ wct jcp.out ict.out (by omega)).mono ?_
        rintro e wcr ⟨vcr, rfl, icr, bcr⟩
        replace icr := Lib.hid icr
        replace bcr := Lib.hid bcr
        go_wp2_with fail
        with_reducible refine (fitK.out _ _ icr.out).mono ?_
        rintro e w12 ⟨rfl, bcs⟩
        have Bc : Below w8.heap.size w8 w12 := ((((bcp.out.trans (bcq.out.mono bcp.out.size)).trans (bct.out.mono (bcp.out.trans (bcq.out.mono bcp.out.size)).size)).trans (bcr.out.mono ((bcp.out.trans (bcq.out.mono bcp.out.size)).trans (bct.out.mono (bcp.out.trans (bcq.out.mono bcp.out.size)).size)).size)).trans (bcs.mono (((bcp.out.trans (bcq.out.mono bcp.out.size)).trans (bct.out.mono (bcp.out.trans (bcq.out.mono bcp.out.size)).size)).trans (bcr.out.mono ((bcp.out.trans (bcq.out.mono bcp.out.size)).trans (bct.out.mono (bcp.out.trans (bcq.out.mono bcp.out.size)).size)).size)).size))
        have hR := hR.out.below Bc
        have hK := hK.out.trans (Kp.of_below Bc)
        replace bcs := Lib.hid bcs
        replace Bc := Lib.hid Bc
        replace hR := Lib.hid hR
        replace hK := Lib.hid hK
        go_wp2_with fail
        go_ret
        exact ⟨rfl, RL.of hR.out, hK.out⟩
      · have fitX := Lib.hid (fitB_no hx)
        have fitN := Lib.hid (fitB_no hn)
        have fitK := Lib.hid (fitB_no hk3)
        rw [if_neg (fun e => hx e.1)]
        go_enter Try.func14, Try.ntmps14
        go_upto_region 5 with (first | (go_at_call 29; (with_reducible refine hH.out.mono ?_); rintro e z ⟨rfl, rfl⟩) | (go_at_call 29; (with_reducible refine hH2.out.mono ?_); rintro e z ⟨rfl, rfl⟩))
        go_wp2_with fail
        with_reducible refine (ofX.out _).mono ?_
        rintro e wap ⟨vap, rfl, iap, bap⟩
        replace iap := Lib.hid iap
        replace bap := Lib.hid bap
        go_wp2_with fail
        with_reducible refine (ofA.out _).mono ?_
        rintro e waq ⟨vaq, rfl, iaq, baq⟩
        have jap := Lib.hid (iap.out.kept baq)
        replace iaq := Lib.hid iaq
        replace baq := Lib.hid baq
        go_wp2_with fail
        with_reducible refine (addB_any vap vaq 5 _ _ waq jap.out iaq.out (by omega)).mono ?_
        rintro e war ⟨var, rfl, iar, bar⟩
        replace iar := Lib.hid iar
        replace bar := Lib.hid bar
        go_wp2_with fail
        with_reducible refine (fitX.out _ _ iar.out).mono ?_
        rintro e w4 ⟨rfl, bas⟩
        have Ba : Below w.heap.size w w4 := (((bap.out.trans (baq.out.mono bap.out.size)).trans (bar.out.mono (bap.out.trans (baq.out.mono bap.out.size)).size)).trans (bas.mono ((bap.out.trans (baq.out.mono bap.out.size)).trans (bar.out.mono (bap.out.trans (baq.out.mono bap.out.size)).size)).size))
        have hR := hR.out.below Ba
        have hK := hK.out.trans (Kp.of_below Ba)
        replace bas := Lib.hid bas
        replace Ba := Lib.hid Ba
        clear c0 r0 x0 c1 nk
        have c1 := hR.c1
        have n0 := hR.nos.cell hj
        replace hR := Lib.hid hR
        replace hK := Lib.hid hK
        go_wp2_with fail
        with_reducible refine (ofN.out _).mono ?_
        rintro e wbp ⟨vbp, rfl, ibp, bbp⟩
        replace ibp := Lib.hid ibp
        replace bbp := Lib.hid bbp
        go_wp2_with fail
        with_reducible refine (ofA.out _).mono ?_
        rintro e wbq ⟨vbq, rfl, ibq, bbq⟩
        have jbp := Lib.hid (ibp.out.kept bbq)
        replace ibq := Lib.hid ibq
        replace bbq := Lib.hid bbq
        go_wp2_with fail
        with_reducible refine (addB_any vbp vbq 5 _ _ wbq jbp.out ibq.out (by omega)).mono ?_
        rintro e wbr ⟨vbr, rfl, ibr, bbr⟩
        replace ibr := Lib.hid ibr
        replace bbr := Lib.hid bbr
        go_wp2_with fail
        with_reducible refine (fitN.out _ _ ibr.out).mono ?_
        rintro e w8 ⟨rfl, bbs⟩
        have Bb : Below w4.heap.size w4 w8 := (((bbp.out.trans (bbq.out.mono bbp.out.size)).trans (bbr.out.mono (bbp.out.trans (bbq.out.mono bbp.out.size)).size)).trans (bbs.mono ((bbp.out.trans (bbq.out.mono bbp.out.size)).trans (bbr.out.mono (bbp.out.trans (bbq.out.mono bbp.out.size)).size)).size))
        have hR := hR.out.below Bb
        have hK := hK.out.trans (Kp.of_below Bb)
        replace bbs := Lib.hid bbs
        replace Bb := Lib.hid Bb
        clear c1 n0
        have c0 := hR.c0
        have r0 := hR.row hi
        have xk := (hR.bal i hi).cell hk
        replace hR := Lib.hid hR
        replace hK := Lib.hid hK
        go_wp2_with fail
        with_reducible refine (ofK.out _).mono ?_
        rintro e wcp ⟨vcp, rfl, icp, bcp⟩
        replace icp := Lib.hid icp
        replace bcp := Lib.hid bcp
        go_wp2_with fail
        with_reducible refine (ofG.out _).mono ?_
        rintro e wcq ⟨vcq, rfl, icq, bcq⟩
        have jcp := Lib.hid (icp.out.kept bcq)
        replace icq := Lib.hid icq
        replace bcq := Lib.hid bcq
        go_wp2_with fail
        with_reducible refine (turned_any vcq 5 _ wcq icq.out (by omega)).mono ?_
        rintro e wct ⟨vct, rfl, ict, bct⟩
        replace jcp := Lib.hid (jcp.out.kept bct)
        replace ict := Lib.hid ict
        replace bct := Lib.hid bct
        go_wp2_with fail
        with_reducible refine (addB_any vcp vct 5 _ _ wct jcp.out ict.out (by omega)).mono ?_
        rintro e wcr ⟨vcr, rfl, icr, bcr⟩
        replace icr := Lib.hid icr
        replace bcr := Lib.hid bcr
        go_wp2_with fail
        with_reducible refine (fitK.out _ _ icr.out).mono ?_
        rintro e w12 ⟨rfl, bcs⟩
        have Bc : Below w8.heap.size w8 w12 := ((((bcp.out.trans (bcq.out.mono bcp.out.size)).trans (bct.out.mono (bcp.out.trans (bcq.out.mono bcp.out.size)).size)).trans (bcr.out.mono ((bcp.out.trans (bcq.out.mono bcp.out.size)).trans (bct.out.mono (bcp.out.trans (bcq.out.mono bcp.out.size)).size)).size)).trans (bcs.mono (((bcp.out.trans (bcq.out.mono bcp.out.size)).trans (bct.out.mono (bcp.out.trans (bcq.out.mono bcp.out.size)).size)).trans (bcr.out.mono ((bcp.out.trans (bcq.out.mono bcp.out.size)).trans (bct.out.mono (bcp.out.trans (bcq.out.mono bcp.out.size)).size)).size)).size))
        have hR := hR.out.below Bc
        have hK := hK.out.trans (Kp.of_below Bc)
        replace bcs := Lib.hid bcs
        replace Bc := Lib.hid Bc
        replace hR := Lib.hid hR
        replace hK := Lib.hid hK
        go_wp2_with fail
        go_ret
        exact ⟨rfl, RL.of hR.out, hK.out⟩
end Go.Proofs.Ytghebijikdnikaa
