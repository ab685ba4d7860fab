/- The contract of the reference's In.
  The contract of the reference's Swap. -/
import Derived.Test.YtllhpdohahoelaaLG2
namespace Go.Proofs.Ytllhpdohahoelaa
open Go.RowKit
set_option linter.unusedVariables false

theorem fitB_yes {x : Int} (h : In64 x) : ∀ (v : Value) (w : World), IsB w v 6 x → Calls Try.prog 36 #[v] w fun e w' => e = .returned (.tuple #[.int .i64 x, .int .i64 0]) ∧ Below w.heap.size w w' := fun v w hv => by
  have := fit_any v 6 x w hv (by omega)
  unfold fitRV fitRE at this
  unfold In64 at h
  rw [if_pos h, if_pos h] at this
  exact this
theorem fitB_no {x : Int} (h : ¬ In64 x) : ∀ (v : Value) (w : World), IsB w v 6 x → Calls Try.prog 36 #[v] w fun e w' => e = .returned (.tuple #[.int .i64 0, .int .i64 3]) ∧ Below w.heap.size w w' := fun v w hv => by
  have := fit_any v 6 x w hv (by omega)
  unfold fitRV fitRE at this
  unfold In64 at h
  rw [if_neg h, if_neg h] at this
  exact this

set_option maxHeartbeats 8000000 in
set_option maxRecDepth 100000 in
theorem innRL_any {P : Nat → Prop} {b : Nat} {l : LM} (m c a : Int) (w : World) (h0 : RL P w b l) (hl : l.Ok) (ha : In64 a) :
    Calls Try.prog 14 #[.pointer (some ⟨b, 0, none⟩), .int .i64 m, .int .i64 c, .int .i64 a] w (RDid P b (l.inn m c a) w) := by
  obtain ⟨gB, cB, gN, cN, g, cp, h⟩ := h0
  have hH := hasRL_any m c w h
  have hsame : RDid P b (1, l) w (.returned (.int .i64 1)) w := ⟨rfl, RL.of h, Kp.refl _ _⟩
  unfold LM.inn
  cases hh : l.has m c with
  | false =>
    rw [if_neg (by simp)]
    rw [hh] at hH
    replace hH := Lib.hid hH
    replace hh := Lib.hid hh
    replace hsame := Lib.hid hsame
    clear h hl
    go_enter Try.func14, Try.ntmps14
    go_wp2_with (first | (go_at_call 35; (refine hH.out.mono ?_); rintro e z ⟨rfl, rfl⟩))
    go_ret
    exact hsame.out
  | true =>
    rw [hh] at hH
    replace hH := Lib.hid hH
    by_cases h1 : a < 1
    · rw [if_neg (by omega)]
      replace hh := Lib.hid hh
      replace hsame := Lib.hid hsame
      clear h hl
      go_enter Try.func14, Try.ntmps14
      go_wp2_with (first | (go_at_call 35; (refine hH.out.mono ?_); rintro e z ⟨rfl, rfl⟩))
      go_ret
      exact hsame.out
    · rw [if_pos ⟨rfl, by omega⟩]
      obtain ⟨i, j, rfl, rfl, hi, hj⟩ := LM.has_nat hh
      simp only [Int.toNat_natCast]
      have c0 := h.c0
      have r0 := h.row hi
      have x0 := (h.bal i hi).cell hj
      have hiz : (i : Int) < (l.nm : Int) := by omega
      have hjz : (j : Int) < (l.nc : Int) := by omega
      have hb0 := hl.b i j
      have hn0 := hl.n j
      have ofX := Lib.hid fun w => of_any (l.B i j) w hb0.1 hb0.2
      have ofN := Lib.hid fun w => of_any (l.N j) w hn0.1 hn0.2
      have ofA := Lib.hid fun w => of_any a w ha.1 ha.2
      have hR := Lib.hid h
      have hK := Lib.hid (Kp.refl P w)
      replace hh := Lib.hid hh
      replace hsame := Lib.hid hsame
      clear h
      by_cases hx : In64 (l.B i j + a)
      · by_cases hn : In64 (l.N j + a)
        · have fitX := Lib.hid (fitB_yes hx)
          have fitN := Lib.hid (fitB_yes hn)
          rw [if_pos ⟨hx, hn⟩]
          go_enter Try.func14, Try.ntmps14
          go_upto_region 3 with (first | (go_at_call 35; (refine hH.out.mono ?_); rintro e z ⟨rfl, rfl⟩))
          go_wp2_with fail
          with_reducible refine (ofX.out _).mono ?_
          rintro e wap ⟨vap, rfl, iap, bap⟩
          replace iap := Lib.hid iap
          replace bap := Lib.hid bap
          go_wp2_with fail
          with_reducible refine (ofA.out _).mono ?_
          rintro e waq ⟨vaq, rfl, iaq, baq⟩
          have jap := Lib.hid (iap.out.kept baq)
          replace iaq := Lib.hid iaq
          replace baq := Lib.hid baq
          go_wp2_with fail
          with_reducible refine (addB_any vap vaq 5 _ _ waq jap.out iaq.out (by omega)).mono ?_
          rintro e war ⟨var, rfl, iar, bar⟩
          replace iar := Lib.hid iar
          replace bar := Lib.hid bar
          go_wp2_with fail
          with_reducible refine (fitX.out _ _ iar.out).mono ?_
          rintro e w4 ⟨rfl, bas⟩
          have Ba : Below w.heap.size w w4 := (((bap.out.trans (baq.out.mono bap.out.size)).trans (bar.out.mono (bap.out.trans (baq.out.mono bap.out.size)).size)).trans (bas.mono ((bap.out.trans (baq.out.mono bap.out.size)).trans (bar.out.mono (bap.out.trans (baq.out.mono bap.out.size)).size)).size))
          have hR := hR.out.below Ba
          have hK := hK.out.trans (Kp.of_below Ba)
          replace bas := Lib.hid bas
          replace Ba := Lib.hid Ba
          have c1 := hR.c1
          have n0 := hR.nos.cell hj
          replace hR := Lib.hid hR
          replace hK := Lib.hid hK
          go_wp2_with fail
          with_reducible refine (ofN.out _).mono ?_
          rintro e wbp ⟨vbp, rfl, ibp, bbp⟩
          replace ibp := Lib.hid ibp
          replace bbp := Lib.hid bbp
          go_wp2_with fail
          with_reducible refine (ofA.out _).mono ?_
          rintro e wbq ⟨vbq, rfl, ibq, bbq⟩
          have jbp := Lib.hid (ibp.out.kept bbq)
          replace ibq := Lib.hid ibq
          replace bbq := Lib.hid bbq
          go_wp2_with fail
          with_reducible refine (addB_any vbp vbq 5 _ _ wbq jbp.out ibq.out (by omega)).mono ?_
          rintro e wbr ⟨vbr, rfl, ibr, bbr⟩
          replace ibr := Lib.hid ibr
          replace bbr := Lib.hid bbr
          go_wp2_with fail
          with_reducible refine (fitN.out _ _ ibr.out).mono ?_
          rintro e w8 ⟨rfl, bbs⟩
          have Bb : Below w4.heap.size w4 w8 := (((bbp.out.trans (bbq.out.mono bbp.out.size)).trans (bbr.out.mono (bbp.out.trans (bbq.out.mono bbp.out.size)).size)).trans (bbs.mono ((bbp.out.trans (bbq.out.mono bbp.out.size)).trans (bbr.out.mono (bbp.out.trans (bbq.out.mono bbp.out.size)).size)).size))
          have hR := hR.out.below Bb
          have hK := hK.out.trans (Kp.of_below Bb)
          replace bbs := Lib.hid bbs
          replace Bb := Lib.hid Bb
          clear c0 r0 x0 c1 n0
          have c0 := hR.c0
          have r0 := hR.row hi
          have x0 := (hR.bal i hi).cell hj
          have fx := (hR.bal i hi).free j
          have hR2 := hR.setB hi hj (l.B i j + a)
          have hK2 := hK.setCell (a := w) (p := ⟨g i, j, none⟩) (.inl (hR.own.2.2.2 i hi)) (.int .i64 (l.B i j + a))
          replace hR := Lib.hid hR
          replace hK := Lib.hid hK
          go_upto_region 8 with (fail)
          generalize w8.setCell ⟨g i, j, none⟩ (.int .i64 (l.B i j + a)) = W9 at *
          have c1 := hR2.c1
          have n0 := hR2.nos.cell hj
          have fn := hR2.nos.free j
          have hR3 := hR2.setN hj (l.N j + a)
          have hK3 := hK2.setCell (a := w) (p := ⟨gN, j, none⟩) (.inl hR2.own.2.2.1) (.int .i64 (l.N j + a))
          replace hR2 := Lib.hid hR2
          replace hK2 := Lib.hid hK2
          replace hR3 := Lib.hid hR3
          replace hK3 := Lib.hid hK3
          go_wp2_with fail
          go_ret
          exact ⟨rfl, RL.of hR3.out, hK3.out⟩
        · have fitX := Lib.hid (fitB_yes hx)
          have fitN := Lib.hid (fitB_no hn)
          rw [if_neg (fun e => hn e.2)]
          go_enter Try.func14, Try.ntmps14
          go_upto_region 3 with (first | (go_at_call 35; (refine hH.out.mono ?_); rintro e z ⟨rfl, rfl⟩))
          go_wp2_with fail
          with_reducible refine (ofX.out _).mono ?_
          rintro e wap ⟨vap, rfl, iap, bap⟩
          replace iap := Lib.hid iap
          replace bap := Lib.hid bap
          go_wp2_with fail
          with_reducible refine (ofA.out _).mono ?_
          rintro e waq ⟨vaq, rfl, iaq, baq⟩
          have jap := Lib.hid (iap.out.kept baq)
          replace iaq := Lib.hid iaq
          replace baq := Lib.hid baq
          go_wp2_with fail
          with_reducible refine (addB_any vap vaq 5 _ _ waq jap.out iaq.out (by omega)).mono ?_
          rintro e war ⟨var, rfl, iar, bar⟩
          replace iar := Lib.hid iar
          replace bar := Lib.hid bar
          go_wp2_with fail
          with_reducible refine (fitX.out _ _ iar.out).mono ?_
          rintro e w4 ⟨rfl, bas⟩
          have Ba : Below w.heap.size w w4 := (((bap.out.trans (baq.out.mono bap.out.size)).trans (bar.out.mono (bap.out.trans (baq.out.mono bap.out.size)).size)).trans (bas.mono ((bap.out.trans (baq.out.mono bap.out.size)).trans (bar.out.mono (bap.out.trans (baq.out.mono bap.out.size)).size)).size))
          have hR := hR.out.below Ba
          have hK := hK.out.trans (Kp.of_below Ba)
          replace bas := Lib.hid bas
          replace Ba := Lib.hid Ba
          have c1 := hR.c1
          have n0 := hR.nos.cell hj
          replace hR := Lib.hid hR
          replace hK := Lib.hid hK
          go_wp2_with fail
          with_reducible refine (ofN.out _).mono ?_
          rintro e wbp ⟨vbp, rfl, ibp, bbp⟩
          replace ibp := Lib.hid ibp
          replace bbp := Lib.hid bbp
          go_wp2_with fail
          with_reducible refine (ofA.out _).mono ?_
          rintro e wbq ⟨vbq, rfl, ibq, bbq⟩
          have jbp := Lib.hid (ibp.out.kept bbq)
          replace ibq := Lib.hid ibq
          replace bbq := Lib.hid bbq
          go_wp2_with fail
          with_reducible refine (addB_any vbp vbq 5 _ _ wbq jbp.out ibq.out (by omega)).mono ?_
          rintro e wbr ⟨vbr, rfl, ibr, bbr⟩
          replace ibr := Lib.hid ibr
          replace bbr := Lib.hid bbr
          go_wp2_with fail
          with_reducible refine (fitN.out _ _ ibr.out).mono ?_
          rintro e w8 ⟨rfl, bbs⟩
          have Bb : Below w4.heap.size w4 w8 := (((bbp.out.trans (bbq.out.mono bbp.out.size)).trans (bbr.out.mono (bbp.out.trans (bbq.out.mono bbp.out.size)).size)).trans (bbs.mono ((bbp.out.trans (bbq.out.mono bbp.out.size)).trans (bbr.out.mono (bbp.out.trans (bbq.out.mono bbp.out.size)).size)).size))
          have hR := hR.out.below Bb
          have hK := hK.out.trans (Kp.of_below Bb)
          replace bbs := Lib.hid bbs
          replace Bb := Lib.hid Bb
          replace hR := Lib.hid hR
          replace hK := Lib.hid hK
          go_wp2_with fail
          go_ret
          exact ⟨rfl, RL.of hR.out, hK.out⟩
      · by_cases hn : In64 (l.N j + a)
        · have fitX := Lib.hid (fitB_no hx)
          have fitN := Lib.hid (fitB_yes hn)
          rw [if_neg (fun e => hx e.1)]
          go_enter Try.func14, Try.ntmps14
          go_upto_region 3 with (first | (go_at_call 35; (refine hH.out.mono ?_); rintro e z ⟨rfl, rfl⟩))
          go_wp2_with fail
          with_reducible refine (ofX.out _).mono ?_
          rintro e wap ⟨vap, rfl, iap, bap⟩
          replace iap := Lib.hid iap
          replace bap := Lib.hid bap
          go_wp2_with fail
          with_reducible refine (ofA.out _).mono ?_
          rintro e waq ⟨vaq, rfl, iaq, baq⟩
          have jap := Lib.hid (iap.out.kept baq)
          replace iaq := Lib.hid iaq
          replace baq := Lib.hid baq
          go_wp2_with fail
          with_reducible refine (addB_any vap vaq 5 _ _ waq jap.out iaq.out (by omega)).mono ?_
          rintro e war ⟨var, rfl, iar, bar⟩
          replace iar := Lib.hid iar
          replace bar := Lib.hid bar
          go_wp2_with fail
          with_reducible refine (fitX.out _ _ iar.out).mono ?_
          rintro e w4 ⟨rfl, bas⟩
          have Ba : Below w.heap.size w w4 := (((bap.out.trans (baq.out.mono bap.out.size)).trans (bar.out.mono (bap.out.trans (baq.out.mono bap.out.size)).size)).trans (bas.mono ((bap.out.trans (baq.out.mono bap.out.size)).trans (bar.out.mono (bap.out.trans (baq.out.mono bap.out.size)).size)).size))
          have hR := hR.out.below Ba
          have hK := hK.out.trans (Kp.of_below Ba)
          replace bas := Lib.hid bas
          replace Ba := Lib.hid Ba
          have c1 := hR.c1
          have n0 := hR.nos.cell hj
          replace hR := Lib.hid hR
          replace hK := Lib.hid hK
          go_wp2_with fail
          with_reducible refine (ofN.out _).mono ?_
          rintro e wbp ⟨vbp, rfl, ibp, bbp⟩
          replace ibp := Lib.hid ibp
          replace bbp := Lib.hid bbp
          go_wp2_with fail
          with_reducible refine (ofA.out _).mono ?_
          rintro e wbq ⟨vbq, rfl, ibq, bbq⟩
          have jbp := Lib.hid (ibp.out.kept bbq)
          replace ibq := Lib.hid ibq
          replace bbq := Lib.hid bbq
          go_wp2_with fail
          with_reducible refine (addB_any vbp vbq 5 _ _ wbq jbp.out ibq.out (by omega)).mono ?_
          rintro e wbr ⟨vbr, rfl, ibr, bbr⟩
          replace ibr := Lib.hid ibr
          replace bbr := Lib.hid bbr
          go_wp2_with fail
          with_reducible refine (fitN.out _ _ ibr.out).mono ?_
          rintro e w8 ⟨rfl, bbs⟩
          have Bb : Below w4.heap.size w4 w8 := (((bbp.out.trans (bbq.out.mono bbp.out.size)).trans (bbr.out.mono (bbp.out.trans (bbq.out.mono bbp.out.size)).size)).trans (bbs.mono ((bbp.out.trans (bbq.out.mono bbp.out.size)).trans (bbr.out.mono (bbp.out.trans (bbq.out.mono bbp.out.size)).size)).size))
          have hR := hR.out.below Bb
          have hK := hK.out.trans (Kp.of_below Bb)
          replace bbs := Lib.hid bbs
          replace Bb := Lib.hid Bb
          replace hR := Lib.hid hR
          replace hK := Lib.hid hK
          go_wp2_with fail
          go_ret
          exact ⟨rfl, RL.of hR.out, hK.out⟩
        · have fitX := Lib.hid (fitB_no hx)
          have fitN := Lib.hid (fitB_no hn)
          rw [if_neg (fun e => hx e.1)]
          go_enter Try.func14, Try.ntmps14
          go_upto_region 3 with (first | (go_at_call 35; (refine hH.out.mono ?_); rintro e z ⟨rfl, rfl⟩))
          go_wp2_with fail
          with_reducible refine (ofX.out _).mono ?_
          rintro e wap ⟨vap, rfl, iap, bap⟩
          replace iap := Lib.hid iap
          replace bap := Lib.hid bap
          go_wp2_with fail
          with_reducible refine (ofA.out _).mono ?_
          rintro e waq ⟨vaq, rfl, iaq, baq⟩
          have jap := Lib.hid (iap.out.kept baq)
          replace iaq := Lib.hid iaq
          replace baq := Lib.hid baq
          go_wp2_with fail
          with_reducible refine (addB_any vap vaq 5 _ _ waq jap.out iaq.out (by omega)).mono ?_
          rintro e war ⟨var, rfl, iar, bar⟩
          replace iar := Lib.hid iar
          replace bar := Lib.hid bar
          go_wp2_with fail
          with_reducible refine (fitX.out _ _ iar.out).mono ?_
          rintro e w4 ⟨rfl, bas⟩
          have Ba : Below w.heap.size w w4 := (((bap.out.trans (baq.out.mono bap.out.size)).trans (bar.out.mono (bap.out.trans (baq.out.mono bap.out.size)).size)).trans (bas.mono ((bap.out.trans (baq.out.mono bap.out.size)).trans (bar.out.mono (bap.out.trans (baq.out.mono bap.out.size)).size)).size))
          have hR := hR.out.below Ba
          have hK := hK.out.trans (Kp.of_below Ba)
          replace bas := Lib.hid bas
          replace Ba := Lib.hid Ba
          have c1 := hR.c1
          have n0 := hR.nos.cell hj
          replace hR := Lib.hid hR
          replace hK := Lib.hid hK
          go_wp2_with fail
          with_reducible refine (ofN.out _).mono ?_
          rintro e wbp ⟨vbp, rfl, ibp, bbp⟩
          replace ibp := Lib.hid ibp
          replace bbp := Lib.hid bbp
          go_wp2_with fail
          with_reducible refine (ofA.out _).mono ?_
          rintro e wbq ⟨vbq, rfl, ibq, bbq⟩
          have jbp := Lib.hid (ibp.out.kept bbq)
          replace ibq := Lib.hid ibq
          replace bbq := Lib.hid bbq
          go_wp2_with fail
          with_reducible refine (addB_any vbp vbq 5 _ _ wbq jbp.out ibq.out (by omega)).mono ?_
          rintro e wbr ⟨vbr, rfl, ibr, bbr⟩
          replace ibr := Lib.hid ibr
          replace bbr := Lib.hid bbr
          go_wp2_with fail
          with_reducible refine (fitN.out _ _ ibr.out).mono ?_
          rintro e w8 ⟨rfl, bbs⟩
          have Bb : Below w4.heap.size w4 w8 := (((bbp.out.trans (bbq.out.mono bbp.out.size)).trans (bbr.out.mono (bbp.out.trans (bbq.out.mono bbp.out.size)).size)).trans (bbs.mono ((bbp.out.trans (bbq.out.mono bbp.out.size)).trans (bbr.out.mono (bbp.out.trans (bbq.out.mono bbp.out.size)).size)).size))
          have hR := hR.out.below Bb
          have hK := hK.out.trans (Kp.of_below Bb)
          replace bbs := Lib.hid bbs
          replace Bb := Lib.hid Bb
          replace hR := Lib.hid hR
          replace hK := Lib.hid hK
          go_wp2_with fail
          go_ret
          exact ⟨rfl, RL.of hR.out, hK.out⟩
end Go.Proofs.Ytllhpdohahoelaa
namespace Go.Proofs.Ytllhpdohahoelaa
open Go.RowKit
set_option linter.unusedVariables false
end Go.Proofs.Ytllhpdohahoelaa
