/- A crash while a journal is opened again changes nothing: the law's walk. -/
import Derived.Test.YtidofjjghbhaaaaPB
import Derived.Test.YtidofjjghbhaaaaJournalOnce
import Derived.Deep.CutBlock
import Derived.Deep.DeepCutAuto
namespace Go.Proofs.Ytidofjjghbhaaaa
open Go.RowKit
set_option linter.unusedVariables false

/-- a part of a row of texts -/
theorem SRow.part {w : World} {b off len n m : Nat} {ls : List (List UInt8)} (h : SRow w (some ⟨b, off, none⟩) len ls) (hn : n ≤ m) (hm : m ≤ len) : SRow w (some ⟨b, off + n, none⟩) (m - n) ((ls.take m).drop n) := by
  obtain ⟨h1, h2⟩ := h
  refine ⟨by rw [List.length_drop, List.length_take]; omega, ?_⟩
  by_cases e : m - n = 0
  · exact .inl e
  rcases h2 with h2 | ⟨b', off', hb, hlt, hc⟩
  · omega
  injection hb with hb
  injection hb with e1 e2
  subst e1; subst e2
  refine .inr ⟨b, off + n, rfl, hlt, fun i hi => ?_⟩
  rw [show off + n + i = off + (n + i) by omega, hc (n + i) (by omega), List.getD_eq_getElem?_getD, List.getD_eq_getElem?_getD, List.getElem?_drop, List.getElem?_take, if_pos (by omega)]
/-- a row of texts of one's own: nil, or cells -/
theorem Own.cut {B : Nat} {w : World} {v : Value} {l : List (List UInt8)} (h : Own B w v l) : (v = .slice none 0 0 ∧ l = []) ∨ ∃ g c, v = .slice (some ⟨g, 0, none⟩) l.length c ∧ l.length ≤ c ∧ SRow w (some ⟨g, 0, none⟩) l.length l := by
  obtain ⟨p, cap, e, hS⟩ := h.row
  obtain ⟨_, h⟩ := h
  rcases h with ⟨rfl, h0⟩ | ⟨g, c, cur, rfl, hg, hh, hn, hm, _⟩
  · exact .inl ⟨rfl, List.eq_nil_of_length_eq_zero h0⟩
  · injection e with e1 e2 e3
    subst e1
    exact .inr ⟨g, c, rfl, by omega, hS⟩
/-- what the law's loop holds -/
structure TwSt (W wr : World) (d jb k : Nat) (v : Value) (n : Nat) : Prop where
  ex : ∃ F j all, SJ W wr F jb d j all anyT ∧ Rw W.heap.size F wr v all ∧ all.length ≤ k ∧ n = all.length
/-- what is there behind it -/
structure TwEnd (W wc : World) (d : Nat) (v : Value) (n : Nat) : Prop where
  ex : ∃ F all all', LD W wc F d all' anyT n ∧ Rw W.heap.size F wc v all ∧ all' <+: all ∧ all.length ≤ 31

set_option maxHeartbeats 8000000 in
set_option maxRecDepth 100000 in
theorem jTwice_any (p : Option Addr) (len cap : Nat) (ops : Nat → JOp) (f0 f1 : Int) (K L : Nat → Int) (w : World) (hrow : JopRow w p len ops) (hf0 : f0 ≤ 9223372036854775807) (hf1 : f1 ≤ 9223372036854775807) (hK : ∀ i, K i ≤ 9223372036854775807) (hLk : ∀ i, L i ≤ 9223372036854775807) :
    Calls Try.prog 6 #[.slice p len cap, .agg #[.int .i64 f0, .int .i64 f1], .agg #[.int .i64 (K 0), .int .i64 (K 1), .int .i64 (K 2), .int .i64 (K 3), .int .i64 (L 0), .int .i64 (L 1), .int .i64 (L 2), .int .i64 (L 3)]] w fun e w' => e = .returned (.bool true) ∧ Below w.heap.size w w' := by
  have hlen := hrow.2.1
  have hA := fun w => awake_any w
  replace hA := Lib.hid hA
  have hW0 : Below w.heap.size w (w.alloc (.cells #[.int .i64 f0, .int .i64 f1] 61)) := (Below.refl _ _).alloc (Nat.le_refl _) _
  have hbx0 : (w.alloc (.cells #[.int .i64 f0, .int .i64 f1] 61)).heap[w.heap.size]? = some (.cells #[.int .i64 f0, .int .i64 f1] 61 (0, 0)) := heap_alloc_new w _
  generalize hwa : w.alloc (.cells #[.int .i64 f0, .int .i64 f1] 61) = wa at *
  have hW1 : Below wa.heap.size wa (wa.alloc (.cells #[.int .i64 (K 0), .int .i64 (K 1), .int .i64 (K 2), .int .i64 (K 3), .int .i64 (L 0), .int .i64 (L 1), .int .i64 (L 2), .int .i64 (L 3)] 62)) := (Below.refl _ _).alloc (Nat.le_refl _) _
  have hby0 : (wa.alloc (.cells #[.int .i64 (K 0), .int .i64 (K 1), .int .i64 (K 2), .int .i64 (K 3), .int .i64 (L 0), .int .i64 (L 1), .int .i64 (L 2), .int .i64 (L 3)] 62)).heap[wa.heap.size]? = some (.cells #[.int .i64 (K 0), .int .i64 (K 1), .int .i64 (K 2), .int .i64 (K 3), .int .i64 (L 0), .int .i64 (L 1), .int .i64 (L 2), .int .i64 (L 3)] 62 (0, 0)) := heap_alloc_new wa _
  generalize hwb : wa.alloc (.cells #[.int .i64 (K 0), .int .i64 (K 1), .int .i64 (K 2), .int .i64 (K 3), .int .i64 (L 0), .int .i64 (L 1), .int .i64 (L 2), .int .i64 (L 3)] 62) = wb at *
  have hbxb := (hW1.block w.heap.size (obj_lt hbx0)).trans hbx0
  have hWb : Below w.heap.size w wb := hW0.trans (hW1.mono hW0.size)
  have hbl := obj_lt hbx0
  have hbl2 := obj_lt hby0
  have hs0 : wa.heap.size = w.heap.size + 1 := by rw [← hwa]; simp
  have hrowb := hrow.kept hWb
  clear hbx0 hW0 hW1
  rw [hs0] at hby0 hbl2
  generalize hB : w.heap.size = B at *
  replace hwa := Lib.hid hwa
  replace hwb := Lib.hid hwb
  replace hs0 := Lib.hid hs0
  replace hB := Lib.hid hB
  replace hrow := Lib.hid hrow
  replace hrowb := Lib.hid hrowb
  replace hbxb := Lib.hid hbxb
  replace hby0 := Lib.hid hby0
  replace hWb := Lib.hid hWb
  go_enter Try.func6, Try.ntmps6
  go_upto_region 1 with (fail)
  rw [hB.out]
  change Code.wp _ _ _ _ ((w.alloc (.cells #[.int .i64 f0, .int .i64 f1] 61)).alloc (.cells #[.int .i64 (K 0), .int .i64 (K 1), .int .i64 (K 2), .int .i64 (K 3), .int .i64 (L 0), .int .i64 (L 1), .int .i64 (L 2), .int .i64 (L 3)] 62))
  rw [hwa.out, hwb.out]
  go_upto_region 3 with (first | (go_at_call 7; refine (hA.out _).mono ?_; rintro e w1 ⟨rfl, hB1⟩))
  have hrow1 := hrowb.out.kept hB1
  have hbx1 := (hB1.block B (obj_lt hbxb.out)).trans hbxb.out
  have hby1 := (hB1.block (B + 1) (obj_lt hby0.out)).trans hby0.out
  have hW1 : Below B w w1 := hWb.out.trans (hB1.mono (by have := hWb.out.size; omega))
  have cZ := jsize_any p len cap ops w1 hrow1
  clear hwa hwb hs0 hrow hrowb hbxb hby0 hWb hB1 hbl hbl2
  have hbl := obj_lt hbx1
  have hbl2 := obj_lt hby1
  replace cZ := Lib.hid cZ
  replace hrow1 := Lib.hid hrow1
  replace hbx1 := Lib.hid hbx1
  replace hby1 := Lib.hid hby1
  replace hW1 := Lib.hid hW1
  by_cases h30 : 30 < len
  · have h30z : (30 : Int) < (len : Int) := by omega
    go_wp2_with fail
    go_ret
    exact ⟨rfl, hW1.out⟩
  have h30z : ¬ (30 : Int) < (len : Int) := by omega
  go_wp2_with fail
  refine cZ.out.mono ?_
  rintro e w' ⟨⟨z, rfl, hz1, hz2⟩, rfl⟩
  by_cases h4 : 4000 < z
  · have h4z : (4000 : Int) < (z : Int) := by omega
    go_wp2_with fail
    go_ret
    exact ⟨rfl, hW1.out⟩
  have h4z : ¬ (4000 : Int) < (z : Int) := by omega
  have hsz : jsz ops len ≤ 4000 := by have := hz2 (by omega); omega
  clear hz2 hz1
  replace hsz := Lib.hid hsz
  have cN := ad_new 1048576 w1 (by omega)
  replace cN := Lib.hid cN
  go_wp2_with fail
  refine cN.out.mono ?_
  rintro e w2 ⟨d, D, rfl, g1⟩
  have cO := sj_new 1048576 anyT trivial (by omega) g1
  replace cO := Lib.hid cO
  clear cN g1
  go_wp2_with fail
  refine cO.out.mono ?_
  rintro e w3 ⟨jb, F0, rfl, g2, _⟩
  have b0 : w3.cell? ⟨B, 0, none⟩ = some (.int .i64 f0) := obj_cell ((g2.bel.block B hbl).trans hbx1.out) rfl
  have cF := sj_fuse f0 hf0 g2
  replace cF := Lib.hid cF
  clear cO g2
  go_wp2_with fail
  refine cF.out.mono ?_
  rintro e w4 ⟨F1, rfl, g3, _⟩
  replace g3 := Lib.hid g3
  clear cF b0
  go_upto_block 0 with fail
  go_cut [11, 12] (fun v s wc => ∃ n : Nat, s = .int .i64 (n : Nat) ∧ Hid (TwEnd w1 wc d v n))
  case first =>
    go_wp2_with fail
    go_loopw [11, 12, 57] (fun v s i wr => ∃ k n : Nat, k ≤ len ∧ i = .int .i64 k ∧ s = .int .i64 n ∧ Hid (TwSt w1 wr d jb k v n)) (fun _ _ i _ => len - (intOf i).toNat)
    case atStart => exact ⟨0, 0, by omega, rfl, rfl, Lib.hid ⟨_, _, _, g3.out, Rw.nil _ _ _, by simp, rfl⟩⟩
    case round =>
      obtain ⟨k, n, hk, rfl, rfl, hR⟩ := hrel
      obtain ⟨F, j, all, hG, hW, hal, hn⟩ := hR.out.ex
      by_cases hkl : k < len
      · have kz : (k : Int) < (len : Int) := by omega
        obtain ⟨b, off, rfl, hblt, hcell⟩ := hrow1.out.2.2.resolve_left (by omega)
        have hcw : ∀ j, j < 7 → wr.cell? ⟨b, off + k * 7 + j, none⟩ = (ops k).arr[j]? := fun j hj => (hG.bel.cell (p := ⟨b, off + k * 7 + j, none⟩) hblt).trans (hcell k hkl j hj)
        have c0 : wr.cell? ⟨b, off + k * 7, none⟩ = some (.int .i64 (ops k).Do) := hcw 0 (by omega)
        have c1 : wr.cell? ⟨b, off + k * 7 + 1, none⟩ = some (.int .i64 (ops k).N) := hcw 1 (by omega)
        have c2 : wr.cell? ⟨b, off + k * 7 + 2, none⟩ = some (.string (ops k).Bs) := hcw 2 (by omega)
        have c3 : wr.cell? ⟨b, off + k * 7 + 3, none⟩ = some (.int .i64 ((ops k).K 0)) := hcw 3 (by omega)
        have c4 : wr.cell? ⟨b, off + k * 7 + 4, none⟩ = some (.int .i64 ((ops k).K 1)) := hcw 4 (by omega)
        have c5 : wr.cell? ⟨b, off + k * 7 + 5, none⟩ = some (.int .i64 ((ops k).K 2)) := hcw 5 (by omega)
        have c6 : wr.cell? ⟨b, off + k * 7 + 6, none⟩ = some (.int .i64 ((ops k).K 3)) := hcw 6 (by omega)
        have hjk : jsz ops (k + 1) = jsz ops k + (ops k).Bs.size + 1 := rfl
        have hmono := jsz_mono ops (k + 1) (len - (k + 1))
        rw [show k + 1 + (len - (k + 1)) = len by omega] at hmono
        have hbs : (ops k).Bs.size ≤ 4000 := by have := hsz.out; omega
        clear hcw hcell hjk hmono
        generalize hopk : ops k = x at *
        have hB0 : Below wr.heap.size wr (wr.alloc (.cells x.arr 44)) := (Below.refl _ _).alloc (Nat.le_refl _) _
        have hG0 := hG.later hB0
        have hW0 := hW.later hB0
        have hgF : ¬ F wr.heap.size := fun e => by have := (hG.fp _ e).2; omega
        have hgu : u11.ownBlock ≠ some wr.heap.size := fun e => by have := (hW.own.lt _ e).2; omega
        have hxb : (wr.alloc (.cells x.arr 44)).heap[wr.heap.size]? = some (.cells x.arr 44 (0, 0)) := heap_alloc_new wr _
        unfold JOp.arr at hB0 hG0 hW0 hxb
        generalize hv : wr.alloc (.cells #[.int .i64 x.Do, .int .i64 x.N, .string x.Bs, .int .i64 (x.K 0), .int .i64 (x.K 1), .int .i64 (x.K 2), .int .i64 (x.K 3)] 44) = v at *
        generalize hg : wr.heap.size = g at *
        have d0 : v.cell? ⟨g, 0, none⟩ = some (.int .i64 x.Do) := obj_cell hxb rfl
        have d2 : v.cell? ⟨g, 2, none⟩ = some (.string x.Bs) := obj_cell hxb rfl
        replace hv := Lib.hid hv
        replace hg := Lib.hid hg
        have hgl := obj_lt hxb
        replace hxb := Lib.hid hxb
        replace hG0 := Lib.hid hG0
        replace hW0 := Lib.hid hW0
        replace hB0 := Lib.hid hB0
        replace hopk := Lib.hid hopk
        replace hgF := Lib.hid hgF
        replace hgu := Lib.hid hgu
        clear hG hW hR
        go_upto_region 15 with (fail)
        rw [hg.out]
        change Code.wp _ _ _ _ (wr.alloc (.cells #[.int .i64 x.Do, .int .i64 x.N, .string x.Bs, .int .i64 (x.K 0), .int .i64 (x.K 1), .int .i64 (x.K 2), .int .i64 (x.K 3)] 44))
        rw [hv.out]
        by_cases e1 : x.Do = 1
        · have hd1 : (x.Do == 1) = true := by simp [e1]
          have cS := sj_snap x.Bs (by omega) (by omega) trivial hG0.out
          replace cS := Lib.hid cS
          replace e1 := Lib.hid e1
          go_wp2_with fail
          refine cS.out.mono ?_
          rintro e v2 ⟨F2, y, rfl, hS2, hc⟩
          have hW2 := hW0.out.step hS2
          rcases hc with ⟨rfl, j2, hG2⟩ | ⟨hy, hG2⟩
          · have hN : Hid (TwSt w1 v2 d jb (k + 1) u11 n) := Lib.hid ⟨F2, _, _, hG2, hW2, by omega, hn⟩
            clear hG2 hW2 hS2 cS
            go_wp2_with fail
            go_roundw
            case rel => exact ⟨k + 1, n, by omega, by go_num, by rw [hn], hN⟩
            case measure => simp [intOf]; omega
          · have hN : Hid (TwEnd w1 v2 d u11 n) := Lib.hid ⟨F2, all, all, hn ▸ hG2, hW2, List.prefix_refl _, by omega⟩
            have hy1 : (y == 0) = false := by simpa using hy
            have hy2 : (y != 0) = true := by simpa using hy
            clear hG2 hW2 hS2 cS
            go_wp2_with fail
            go_meet
            case rel => exact ⟨n, by rw [hn], hN⟩
        · have hd1 : (x.Do == 1) = false := by simpa using e1
          replace e1 := Lib.hid e1
          have hBv := hG0.out.bel.size
          have hzn := IntWalk.i64_in ((n : Int) + 1) (by omega)
          go_wp2_with (at_builtin; refine wpList_appS2 rfl _ _ rfl rfl w1.heap.size _ all rfl hW0.out.own hBv x.Bs rfl (by omega) ?_)
          intro v5 w5 hO5 hGr5 hwh5
          have hK5 : Kp (fun i => u11.ownBlock = some i) v w5 := ((Kp.refl _ v).alloc _).grown hGr5 fun q hq => .inl hq
          have hG5 := hG0.out.apart hK5 (fun i hi hq => ⟨hW0.out.out i hq, (hW0.out.own.lt i hq).1⟩)
          have hR5 : Rw w1.heap.size F w5 v5 (all ++ [bl x.Bs]) := ⟨hO5, fun q hq hF => by
            rcases hwh5 q hq with h1 | h1
            · exact hW0.out.out q h1 hF
            · have := (hG0.out.fp q hF).2; omega⟩
          have d5 : w5.cell? ⟨g, 2, none⟩ = some (.string x.Bs) := (hK5.cell (p := ⟨g, 2, none⟩) d2 hgu.out)
          have cA := sj_app x.Bs (by omega) (by omega) hG5
          replace cA := Lib.hid cA
          replace hR5 := Lib.hid hR5
          clear hO5 hGr5 hwh5 hK5 hG5
          go_wp2_with fail
          refine cA.out.mono ?_
          rintro e v6 ⟨F6, y, rfl, hS6, hc⟩
          have hR6 := hR5.out.step hS6
          rcases hc with ⟨rfl, j6, hG6⟩ | ⟨hy, all', hp, hG6⟩
          · have hN : Hid (TwSt w1 v6 d jb (k + 1) v5 (n + 1)) := Lib.hid ⟨F6, _, _, hG6, hR6, by simp; omega, by simp; omega⟩
            clear hG6 hR6 hS6 cA
            go_wp2_with fail
            go_roundw
            case rel => exact ⟨k + 1, n + 1, by omega, by go_num, by go_num, hN⟩
            case measure => simp [intOf]; omega
          · have hN : Hid (TwEnd w1 v6 d v5 n) := Lib.hid ⟨F6, _, all', hn ▸ hG6, hR6, hp, by simp; omega⟩
            have hy1 : (y == 0) = false := by simpa using hy
            have hy2 : (y != 0) = true := by simpa using hy
            clear hG6 hR6 hS6 cA
            go_wp2_with fail
            go_meet
            case rel => exact ⟨n, by rw [hn], hN⟩
      · obtain rfl : k = len := by omega
        have kz : ¬ (k : Int) < (k : Int) := by omega
        have hN : Hid (TwEnd w1 wr d u11 n) := Lib.hid ⟨F, all, all, hn ▸ hG.ld, hW, List.prefix_refl _, by omega⟩
        clear hG hW hR
        go_wp2_with fail
        go_meet
        case rel => exact ⟨n, by rw [hn], hN⟩
  case rest =>
    obtain ⟨n, rfl, hE⟩ := hcut
    obtain ⟨F, all, all', hL, hR, hp, hal⟩ := hE.out.ex
    have bel := hL.bel
    have hby := (bel.block (B + 1) hbl2).trans hby1.out
    have q0 : wc.cell? ⟨B + 1, 0, none⟩ = some (.int .i64 (K 0)) := obj_cell hby rfl
    have q1 : wc.cell? ⟨B + 1, 1, none⟩ = some (.int .i64 (K 1)) := obj_cell hby rfl
    have q2 : wc.cell? ⟨B + 1, 2, none⟩ = some (.int .i64 (K 2)) := obj_cell hby rfl
    have q3 : wc.cell? ⟨B + 1, 3, none⟩ = some (.int .i64 (K 3)) := obj_cell hby rfl
    have cC := ld_crash K hK hL
    replace cC := Lib.hid cC
    replace hR := Lib.hid hR
    clear bel hby hL hE g3
    go_wp2_with fail
    refine cC.out.mono ?_
    rintro e v1 ⟨F1', rfl, hD1, hS1⟩
    have hR1 := hR.out.step hS1
    have bel1 : Below w1.heap.size w1 v1 := by obtain ⟨m, hA, _⟩ := hD1; exact hA.bel
    have b1 : v1.cell? ⟨B, 1, none⟩ = some (.int .i64 f1) := obj_cell ((bel1.block B hbl).trans hbx1.out) rfl
    have cF := cd_fuse f1 hf1 hD1
    replace cF := Lib.hid cF
    replace hR1 := Lib.hid hR1
    clear cC hR hS1 bel1 hD1 q0 q1 q2 q3
    go_wp2_with fail
    refine cF.out.mono ?_
    rintro e v2 ⟨F2, rfl, hD2, hS2⟩
    have hR2 := hR1.out.step hS2
    have cO := cf_open hD2
    replace cO := Lib.hid cO
    replace hR2 := Lib.hid hR2
    clear cF hR1 hS2 hD2 b1
    go_wp2_with fail
    refine cO.out.mono ?_
    rintro e v3 ⟨F3, hS3, hc⟩
    have hR3 := hR2.out.step hS3
    clear cO hR2 hS3
    replace hR3 := Lib.hid hR3
    rcases hc with ⟨jb3, j3, p3, cap3, rfl, hO, hSD, hH⟩ | ⟨rfl, hLD⟩
    · have hby := (hSD.bel.block (B + 1) hbl2).trans hby1.out
      have q4 : v3.cell? ⟨B + 1, 4, none⟩ = some (.int .i64 (L 0)) := obj_cell hby rfl
      have q5 : v3.cell? ⟨B + 1, 5, none⟩ = some (.int .i64 (L 1)) := obj_cell hby rfl
      have q6 : v3.cell? ⟨B + 1, 6, none⟩ = some (.int .i64 (L 2)) := obj_cell hby rfl
      have q7 : v3.cell? ⟨B + 1, 7, none⟩ = some (.int .i64 (L 3)) := obj_cell hby rfl
      have cK := sd_crash L hLk hSD
      replace cK := Lib.hid cK
      clear hby hSD
      replace hH := Lib.hid hH
      go_wp2_with fail
      refine cK.out.mono ?_
      rintro e v4 ⟨F4, rfl, hD4, hS4⟩
      have hR4 := hR3.out.step hS4
      have hH4 := hH.out.step hS4
      replace hH4 := Lib.hid hH4
      have cO4 := sd_open hD4
      replace cO4 := Lib.hid cO4
      replace hR4 := Lib.hid hR4
      clear cK hD4 hS4 hR3 q4 q5 q6 q7
      go_wp2_with fail
      refine cO4.out.mono ?_
      rintro e v5 ⟨kb, F5, rfl, hV5, hS5⟩
      have hH5 := hH4.out.step hS5
      have hR5 := hR4.out.step hS5
      clear cO4 hR4 hS5
      rcases hR5.own.cut with ⟨rfl, rfl⟩ | ⟨gw, cw, rfl, hcw, hrw⟩
      · have hall := hp.length_le
        rw [List.length_nil] at hall hal
        have hlo := hO.lo
        have hhi := hO.hi
        have hbl3 := hO.bl
        have hz1 : j3.last = 0 := by omega
        have hz2 : j3.base = 0 := by omega
        have hz3 : n = 0 := by omega
        subst hz3
        have hrl : j3.recs = [] := by rw [hO.recs, hz1, List.take_zero, List.drop_nil]
        have cT := vj_text hV5
        have cL := fun w' (hb : Below v5.heap.size v5 w') => vj_last (hV5.later hb) (by omega)
        have cR := fun w' (hb : Below v5.heap.size v5 w') => vj_records (hV5.later hb) (by omega)
        have cLw := fun w' (hb : Below v5.heap.size v5 w') => lastO_any (hH5.later hb).jo (by omega)
        have cRw := fun w' (hb : Below v5.heap.size v5 w') => recordsO_any (hH5.later hb).jo (by unfold JM.last at hhi; omega)
        have cS := fun (p1 p2 : Option Addr) (c1 c2 : Nat) (w' : World) (h1 : SRow w' p1 j3.recs.length j3.recs) (h2 : SRow w' p2 j3.recs.length j3.recs) => same_any p1 p2 j3.recs.length j3.recs.length c1 c2 j3.recs j3.recs w' h1 h2 (by unfold JM.last at hhi; omega)
        rw [decide_eq_true rfl] at cS
        rw [hz2] at cT
        rw [hz1] at cL
        rw [hrl, List.length_nil] at cS
        rw [hrl, List.length_nil] at cR
        rw [hz1] at cLw
        rw [hrl, List.length_nil] at cRw
        rw [hz1] at hlo hhi hbl3
        replace cT := Lib.hid cT
        replace cL := Lib.hid cL
        replace cR := Lib.hid cR
        replace cS := Lib.hid cS
        replace cLw := Lib.hid cLw
        replace cRw := Lib.hid cRw
        have hsr : ∀ (p : Option Addr) (w' : World), SRow w' p 0 [] := fun _ _ => ⟨rfl, .inl rfl⟩
        replace hsr := Lib.hid hsr
        replace hO := Lib.hid hO
        unfold sv at cT
        generalize (⟨j3.text.toArray⟩ : ByteArray) = tx at *
        go_wp2_with fail
        refine cT.out.mono ?_
        rintro e v6 ⟨rfl, n6, hv6⟩
        have hb6 : Below v5.heap.size v5 v6 := by rw [hv6]; exact below_dn (Below.refl _ _) n6
        clear hv6
        replace hb6 := Lib.hid hb6
        go_wp2_with fail
        refine (cL.out _ hb6.out).mono ?_
        rintro e v7 ⟨rfl, n7, hv7⟩
        have hb7 : Below v5.heap.size v5 v7 := by rw [hv7]; exact below_dn hb6.out n7
        clear hv7
        replace hb7 := Lib.hid hb7
        go_upto_region 32 with (fail)
        have hbc0 : Hid (Below v5.heap.size v5 v7.drew) := Lib.hid hb7.out.drew
        go_region_held3 (fun _ => True) (exact trivial) (first
          | (go_at_call 28; (with_reducible refine (cR.out _ hbc0.out).mono ?_); rintro e v8 ⟨⟨p8, cap8, rfl, hs8⟩, hb8⟩; have hr8 := hsr.out; have hb8' := hbc0.out.trans (hb8.mono hbc0.out.size); replace hs8 := Lib.hid hs8; replace hr8 := Lib.hid hr8; replace hb8' := Lib.hid hb8'; clear hb8)
          | (go_at_call 27; (with_reducible refine (cS.out _ _ _ _ _ hs8.out (hr8.out _ _)).mono ?_); rintro e v9 ⟨rfl, n9, hv9⟩; have hb9 : Below v5.heap.size v5 v9 := (by rw [hv9]; exact below_dn hb8'.out n9); clear hv9; replace hb9 := Lib.hid hb9))
        have hz9 : ((((0 : Nat) : Int)) == (((0 : Nat) : Int))) = true := by simp
        go_wp2_with fail
        refine (cLw.out _ hb9.out).mono ?_
        rintro e v10 ⟨rfl, n10, hv10⟩
        have hb10 : Below v5.heap.size v5 v10 := by rw [hv10]; exact below_dn hb9.out n10
        clear hv10
        replace hb10 := Lib.hid hb10
        go_wp2_with fail
        refine (cRw.out _ hb10.out).mono ?_
        rintro e v11 ⟨⟨p11, cap11, rfl, hs11⟩, hb11⟩
        have hb11' := hb10.out.trans (hb11.mono hb10.out.size)
        replace hs11 := Lib.hid hs11
        replace hb11' := Lib.hid hb11'
        clear hb11
        go_wp2_with fail
        refine (cR.out _ hb11'.out).mono ?_
        rintro e v12 ⟨⟨p12, cap12, rfl, hs12⟩, hb12⟩
        have hs11' := hs11.out.kept hb12
        have hb12' := hb11'.out.trans (hb12.mono hb11'.out.size)
        replace hs12 := Lib.hid hs12
        replace hs11' := Lib.hid hs11'
        replace hb12' := Lib.hid hb12'
        clear hb12
        go_wp2_with fail
        refine (cS.out _ _ _ _ _ hs11'.out hs12.out).mono ?_
        rintro e v13 ⟨rfl, n13, hv13⟩
        have hb13 : Below v5.heap.size v5 v13 := by rw [hv13]; exact below_dn hb12'.out n13
        clear hv13
        go_wp2_with fail
        go_ret
        exact ⟨rfl, hW1.out.trans ((hV5.bel.trans (hb13.mono hV5.bel.size)).mono (by have := hW1.out.size; omega))⟩
      · by_cases hcb : cw = j3.base
        · have hall := hp.length_le
          have hlo := hO.lo
          have hhi := hO.hi
          have hbl3 := hO.bl
          have hrec : j3.recs = (all.take j3.last).drop j3.base := by
            rw [hO.recs]
            obtain ⟨r, rfl⟩ := hp
            rw [List.take_append_of_le_length hhi]
          have hrl0 : j3.recs.length = j3.last - j3.base := by rw [hrec, List.length_drop, List.length_take]; omega
          have hz1 : j3.last = cw := by omega
          have hz2 : j3.base = cw := by omega
          have hrl : j3.recs = [] := List.eq_nil_of_length_eq_zero (by omega)
          have cT := vj_text hV5
          have cL := fun w' (hb : Below v5.heap.size v5 w') => vj_last (hV5.later hb) (by omega)
          have cR := fun w' (hb : Below v5.heap.size v5 w') => vj_records (hV5.later hb) (by omega)
          have cLw := fun w' (hb : Below v5.heap.size v5 w') => lastO_any (hH5.later hb).jo (by omega)
          have cRw := fun w' (hb : Below v5.heap.size v5 w') => recordsO_any (hH5.later hb).jo (by unfold JM.last at hhi; omega)
          have cS := fun (p1 p2 : Option Addr) (c1 c2 : Nat) (w' : World) (h1 : SRow w' p1 j3.recs.length j3.recs) (h2 : SRow w' p2 j3.recs.length j3.recs) => same_any p1 p2 j3.recs.length j3.recs.length c1 c2 j3.recs j3.recs w' h1 h2 (by unfold JM.last at hhi; omega)
          rw [decide_eq_true rfl] at cS
          rw [hz2] at cT
          rw [hz1] at cL
          rw [hrl, List.length_nil] at cS
          rw [hrl, List.length_nil] at cR
          rw [hz1] at cLw
          rw [hrl, List.length_nil] at cRw
          rw [hz1] at hlo hhi hbl3
          replace cT := Lib.hid cT
          replace cL := Lib.hid cL
          replace cR := Lib.hid cR
          replace cS := Lib.hid cS
          replace cLw := Lib.hid cLw
          replace cRw := Lib.hid cRw
          have hsr : ∀ (p : Option Addr) (w' : World), SRow w' p 0 [] := fun _ _ => ⟨rfl, .inl rfl⟩
          replace hsr := Lib.hid hsr
          clear hcb
          have hg4 : decide (cw < n) = false := decide_eq_false (by omega)
          have hg5 : decide (all.length < cw) = false := decide_eq_false (by omega)
          have hg1 : decide (((cw : Nat) : Int) < (n : Int)) = false := decide_eq_false (by omega)
          have hg2 : decide (((all.length : Nat) : Int) < ((cw : Nat) : Int)) = false := decide_eq_false (by omega)
          clear hrec hrl0
          replace hO := Lib.hid hO
          unfold sv at cT
          generalize (⟨j3.text.toArray⟩ : ByteArray) = tx at *
          go_wp2_with fail
          refine cT.out.mono ?_
          rintro e v6 ⟨rfl, n6, hv6⟩
          have hb6 : Below v5.heap.size v5 v6 := by rw [hv6]; exact below_dn (Below.refl _ _) n6
          clear hv6
          replace hb6 := Lib.hid hb6
          go_wp2_with fail
          refine (cL.out _ hb6.out).mono ?_
          rintro e v7 ⟨rfl, n7, hv7⟩
          have hb7 : Below v5.heap.size v5 v7 := by rw [hv7]; exact below_dn hb6.out n7
          clear hv7
          replace hb7 := Lib.hid hb7
          go_upto_region 32 with (fail)
          have hbc0 : Hid (Below v5.heap.size v5 v7.drew) := Lib.hid hb7.out.drew
          go_region_held3 (fun _ => True) (exact trivial) (first
            | (go_at_call 28; (with_reducible refine (cR.out _ hbc0.out).mono ?_); rintro e v8 ⟨⟨p8, cap8, rfl, hs8⟩, hb8⟩; have hr8 := hsr.out; have hb8' := hbc0.out.trans (hb8.mono hbc0.out.size); replace hs8 := Lib.hid hs8; replace hr8 := Lib.hid hr8; replace hb8' := Lib.hid hb8'; clear hb8)
            | (go_at_call 27; (with_reducible refine (cS.out _ _ _ _ _ hs8.out (hr8.out _ _)).mono ?_); rintro e v9 ⟨rfl, n9, hv9⟩; have hb9 : Below v5.heap.size v5 v9 := (by rw [hv9]; exact below_dn hb8'.out n9); clear hv9; replace hb9 := Lib.hid hb9))
          have hz9 : ((((cw : Nat) : Int)) == (((cw : Nat) : Int))) = true := by simp
          go_wp2_with fail
          refine (cLw.out _ hb9.out).mono ?_
          rintro e v10 ⟨rfl, n10, hv10⟩
          have hb10 : Below v5.heap.size v5 v10 := by rw [hv10]; exact below_dn hb9.out n10
          clear hv10
          replace hb10 := Lib.hid hb10
          go_wp2_with fail
          refine (cRw.out _ hb10.out).mono ?_
          rintro e v11 ⟨⟨p11, cap11, rfl, hs11⟩, hb11⟩
          have hb11' := hb10.out.trans (hb11.mono hb10.out.size)
          replace hs11 := Lib.hid hs11
          replace hb11' := Lib.hid hb11'
          clear hb11
          go_wp2_with fail
          refine (cR.out _ hb11'.out).mono ?_
          rintro e v12 ⟨⟨p12, cap12, rfl, hs12⟩, hb12⟩
          have hs11' := hs11.out.kept hb12
          have hb12' := hb11'.out.trans (hb12.mono hb11'.out.size)
          replace hs12 := Lib.hid hs12
          replace hs11' := Lib.hid hs11'
          replace hb12' := Lib.hid hb12'
          clear hb12
          go_wp2_with fail
          refine (cS.out _ _ _ _ _ hs11'.out hs12.out).mono ?_
          rintro e v13 ⟨rfl, n13, hv13⟩
          have hb13 : Below v5.heap.size v5 v13 := by rw [hv13]; exact below_dn hb12'.out n13
          clear hv13
          go_wp2_with fail
          go_ret
          exact ⟨rfl, hW1.out.trans ((hV5.bel.trans (hb13.mono hV5.bel.size)).mono (by have := hW1.out.size; omega))⟩
        · have hall := hp.length_le
          have hlo := hO.lo
          have hhi := hO.hi
          have hbl3 := hO.bl
          have hrec : j3.recs = (all.take j3.last).drop j3.base := by
            rw [hO.recs]
            obtain ⟨r, rfl⟩ := hp
            rw [List.take_append_of_le_length hhi]
          have hrl0 : j3.recs.length = j3.last - j3.base := by rw [hrec, List.length_drop, List.length_take]; omega
          have hsr : ∀ w', Below v5.heap.size v5 w' → SRow w' (some ⟨gw, j3.base, none⟩) j3.recs.length j3.recs := fun w' hb => by
            have := (hrw.kept hb).part (n := j3.base) (m := j3.last) hbl3 (by omega)
            rw [Nat.zero_add, ← hrec, ← hrl0] at this
            exact this
          have cT := vj_text hV5
          have cL := fun w' (hb : Below v5.heap.size v5 w') => vj_last (hV5.later hb) (by omega)
          have cR := fun w' (hb : Below v5.heap.size v5 w') => vj_records (hV5.later hb) (by omega)
          have cLw := fun w' (hb : Below v5.heap.size v5 w') => lastO_any (hH5.later hb).jo (by omega)
          have cRw := fun w' (hb : Below v5.heap.size v5 w') => recordsO_any (hH5.later hb).jo (by unfold JM.last at hhi; omega)
          have cS := fun (p1 p2 : Option Addr) (c1 c2 : Nat) (w' : World) (h1 : SRow w' p1 j3.recs.length j3.recs) (h2 : SRow w' p2 j3.recs.length j3.recs) => same_any p1 p2 j3.recs.length j3.recs.length c1 c2 j3.recs j3.recs w' h1 h2 (by unfold JM.last at hhi; omega)
          rw [decide_eq_true rfl] at cS
          replace cT := Lib.hid cT
          replace cL := Lib.hid cL
          replace cR := Lib.hid cR
          replace cS := Lib.hid cS
          replace cLw := Lib.hid cLw
          replace cRw := Lib.hid cRw
          replace hsr := Lib.hid hsr
          have hg4 : decide (j3.last < n) = false := decide_eq_false (by omega)
          have hg5 : decide (all.length < j3.last) = false := decide_eq_false (by omega)
          have hg1 : decide (((j3.last : Nat) : Int) < (n : Int)) = false := decide_eq_false (by omega)
          have hg2 : decide (((all.length : Nat) : Int) < ((j3.last : Nat) : Int)) = false := decide_eq_false (by omega)
          have hg6 : decide (j3.last < j3.base) = false := decide_eq_false (by omega)
          have hg3 : decide (((j3.last : Nat) : Int) < ((j3.base : Nat) : Int)) = false := decide_eq_false (by omega)
          have hq4 : ((j3.base : Nat) : Int) ≤ ((j3.last : Nat) : Int) := by omega
          have hq5 : ((j3.last : Nat) : Int) ≤ (cw : Int) := by omega
          have hq7 : (j3.last - j3.base) = j3.recs.length := hrl0.symm
          have hq8 : j3.last ≤ cw := by omega
          clear hrec hrl0
          replace hO := Lib.hid hO
          unfold sv at cT
          generalize (⟨j3.text.toArray⟩ : ByteArray) = tx at *
          go_wp2_with fail
          refine cT.out.mono ?_
          rintro e v6 ⟨rfl, n6, hv6⟩
          have hb6 : Below v5.heap.size v5 v6 := by rw [hv6]; exact below_dn (Below.refl _ _) n6
          clear hv6
          replace hb6 := Lib.hid hb6
          go_wp2_with fail
          refine (cL.out _ hb6.out).mono ?_
          rintro e v7 ⟨rfl, n7, hv7⟩
          have hb7 : Below v5.heap.size v5 v7 := by rw [hv7]; exact below_dn hb6.out n7
          clear hv7
          replace hb7 := Lib.hid hb7
          go_upto_region 32 with (fail)
          have hbc0 : Hid (Below v5.heap.size v5 v7.drew) := Lib.hid hb7.out.drew
          go_region_held3 (fun _ => True) (exact trivial) (first
            | (go_at_call 28; (with_reducible refine (cR.out _ hbc0.out).mono ?_); rintro e v8 ⟨⟨p8, cap8, rfl, hs8⟩, hb8⟩; have hr8 := (hsr.out _ (hbc0.out.trans (hb8.mono hbc0.out.size))); have hb8' := hbc0.out.trans (hb8.mono hbc0.out.size); replace hs8 := Lib.hid hs8; replace hr8 := Lib.hid hr8; replace hb8' := Lib.hid hb8'; clear hb8)
            | (go_at_call 27; (with_reducible refine (cS.out _ _ _ _ _ hs8.out hr8.out).mono ?_); rintro e v9 ⟨rfl, n9, hv9⟩; have hb9 : Below v5.heap.size v5 v9 := (by rw [hv9]; exact below_dn hb8'.out n9); clear hv9; replace hb9 := Lib.hid hb9))
          have hz9 : ((((j3.last : Nat) : Int)) == (((j3.last : Nat) : Int))) = true := by simp
          go_wp2_with fail
          refine (cLw.out _ hb9.out).mono ?_
          rintro e v10 ⟨rfl, n10, hv10⟩
          have hb10 : Below v5.heap.size v5 v10 := by rw [hv10]; exact below_dn hb9.out n10
          clear hv10
          replace hb10 := Lib.hid hb10
          go_wp2_with fail
          refine (cRw.out _ hb10.out).mono ?_
          rintro e v11 ⟨⟨p11, cap11, rfl, hs11⟩, hb11⟩
          have hb11' := hb10.out.trans (hb11.mono hb10.out.size)
          replace hs11 := Lib.hid hs11
          replace hb11' := Lib.hid hb11'
          clear hb11
          go_wp2_with fail
          refine (cR.out _ hb11'.out).mono ?_
          rintro e v12 ⟨⟨p12, cap12, rfl, hs12⟩, hb12⟩
          have hs11' := hs11.out.kept hb12
          have hb12' := hb11'.out.trans (hb12.mono hb11'.out.size)
          replace hs12 := Lib.hid hs12
          replace hs11' := Lib.hid hs11'
          replace hb12' := Lib.hid hb12'
          clear hb12
          go_wp2_with fail
          refine (cS.out _ _ _ _ _ hs11'.out hs12.out).mono ?_
          rintro e v13 ⟨rfl, n13, hv13⟩
          have hb13 : Below v5.heap.size v5 v13 := by rw [hv13]; exact below_dn hb12'.out n13
          clear hv13
          go_wp2_with fail
          go_ret
          exact ⟨rfl, hW1.out.trans ((hV5.bel.trans (hb13.mono hV5.bel.size)).mono (by have := hW1.out.size; omega))⟩
    · have hby := (hLD.bel.block (B + 1) hbl2).trans hby1.out
      have q4 : v3.cell? ⟨B + 1, 4, none⟩ = some (.int .i64 (L 0)) := obj_cell hby rfl
      have q5 : v3.cell? ⟨B + 1, 5, none⟩ = some (.int .i64 (L 1)) := obj_cell hby rfl
      have q6 : v3.cell? ⟨B + 1, 6, none⟩ = some (.int .i64 (L 2)) := obj_cell hby rfl
      have q7 : v3.cell? ⟨B + 1, 7, none⟩ = some (.int .i64 (L 3)) := obj_cell hby rfl
      have cK := ld_crash L hLk hLD
      replace cK := Lib.hid cK
      clear hby hLD
      go_wp2_with fail
      refine cK.out.mono ?_
      rintro e v4 ⟨F4, rfl, hD4, hS4⟩
      have hR4 := hR3.out.step hS4
      have cO4 := cd_open hD4
      replace cO4 := Lib.hid cO4
      replace hR4 := Lib.hid hR4
      clear cK hD4 hS4 hR3 q4 q5 q6 q7
      go_wp2_with fail
      refine cO4.out.mono ?_
      rintro e v5 ⟨kb, F5, j3, rfl, hO, hSJ, hS5⟩
      have hV5 := hSJ.vj
      have hR5 := hR4.out.step hS5
      clear cO4 hR4 hS5
      rcases hR5.own.cut with ⟨rfl, rfl⟩ | ⟨gw, cw, rfl, hcw, hrw⟩
      · have hall := hp.length_le
        rw [List.length_nil] at hall hal
        have hlo := hO.lo
        have hhi := hO.hi
        have hbl3 := hO.bl
        have hz1 : j3.last = 0 := by omega
        have hz2 : j3.base = 0 := by omega
        have hz3 : n = 0 := by omega
        subst hz3
        have hrl : j3.recs = [] := by rw [hO.recs, hz1, List.take_zero, List.drop_nil]
        have cT := vj_text hV5
        have cL := fun w' (hb : Below v5.heap.size v5 w') => vj_last (hV5.later hb) (by omega)
        have cR := fun w' (hb : Below v5.heap.size v5 w') => vj_records (hV5.later hb) (by omega)
        have cS := fun (p1 p2 : Option Addr) (c1 c2 : Nat) (w' : World) (h1 : SRow w' p1 j3.recs.length j3.recs) (h2 : SRow w' p2 j3.recs.length j3.recs) => same_any p1 p2 j3.recs.length j3.recs.length c1 c2 j3.recs j3.recs w' h1 h2 (by unfold JM.last at hhi; omega)
        rw [decide_eq_true rfl] at cS
        rw [hz2] at cT
        rw [hz1] at cL
        rw [hrl, List.length_nil] at cS
        rw [hrl, List.length_nil] at cR
        rw [hz1] at hlo hhi hbl3
        replace cT := Lib.hid cT
        replace cL := Lib.hid cL
        replace cR := Lib.hid cR
        replace cS := Lib.hid cS
        have hsr : ∀ (p : Option Addr) (w' : World), SRow w' p 0 [] := fun _ _ => ⟨rfl, .inl rfl⟩
        replace hsr := Lib.hid hsr
        replace hO := Lib.hid hO
        unfold sv at cT
        generalize (⟨j3.text.toArray⟩ : ByteArray) = tx at *
        go_wp2_with fail
        refine cT.out.mono ?_
        rintro e v6 ⟨rfl, n6, hv6⟩
        have hb6 : Below v5.heap.size v5 v6 := by rw [hv6]; exact below_dn (Below.refl _ _) n6
        clear hv6
        replace hb6 := Lib.hid hb6
        go_wp2_with fail
        refine (cL.out _ hb6.out).mono ?_
        rintro e v7 ⟨rfl, n7, hv7⟩
        have hb7 : Below v5.heap.size v5 v7 := by rw [hv7]; exact below_dn hb6.out n7
        clear hv7
        replace hb7 := Lib.hid hb7
        go_upto_region 32 with (fail)
        have hbc0 : Hid (Below v5.heap.size v5 v7.drew) := Lib.hid hb7.out.drew
        go_region_held3 (fun _ => True) (exact trivial) (first
          | (go_at_call 28; (with_reducible refine (cR.out _ hbc0.out).mono ?_); rintro e v8 ⟨⟨p8, cap8, rfl, hs8⟩, hb8⟩; have hr8 := hsr.out; have hb8' := hbc0.out.trans (hb8.mono hbc0.out.size); replace hs8 := Lib.hid hs8; replace hr8 := Lib.hid hr8; replace hb8' := Lib.hid hb8'; clear hb8)
          | (go_at_call 27; (with_reducible refine (cS.out _ _ _ _ _ hs8.out (hr8.out _ _)).mono ?_); rintro e v9 ⟨rfl, n9, hv9⟩; have hb9 : Below v5.heap.size v5 v9 := (by rw [hv9]; exact below_dn hb8'.out n9); clear hv9; replace hb9 := Lib.hid hb9))
        go_wp2_with fail
        go_ret
        exact ⟨rfl, hW1.out.trans ((hV5.bel.trans (hb9.out.mono hV5.bel.size)).mono (by have := hW1.out.size; omega))⟩
      · by_cases hcb : cw = j3.base
        · have hall := hp.length_le
          have hlo := hO.lo
          have hhi := hO.hi
          have hbl3 := hO.bl
          have hrec : j3.recs = (all.take j3.last).drop j3.base := by
            rw [hO.recs]
            obtain ⟨r, rfl⟩ := hp
            rw [List.take_append_of_le_length hhi]
          have hrl0 : j3.recs.length = j3.last - j3.base := by rw [hrec, List.length_drop, List.length_take]; omega
          have hz1 : j3.last = cw := by omega
          have hz2 : j3.base = cw := by omega
          have hrl : j3.recs = [] := List.eq_nil_of_length_eq_zero (by omega)
          have cT := vj_text hV5
          have cL := fun w' (hb : Below v5.heap.size v5 w') => vj_last (hV5.later hb) (by omega)
          have cR := fun w' (hb : Below v5.heap.size v5 w') => vj_records (hV5.later hb) (by omega)
          have cS := fun (p1 p2 : Option Addr) (c1 c2 : Nat) (w' : World) (h1 : SRow w' p1 j3.recs.length j3.recs) (h2 : SRow w' p2 j3.recs.length j3.recs) => same_any p1 p2 j3.recs.length j3.recs.length c1 c2 j3.recs j3.recs w' h1 h2 (by unfold JM.last at hhi; omega)
          rw [decide_eq_true rfl] at cS
          rw [hz2] at cT
          rw [hz1] at cL
          rw [hrl, List.length_nil] at cS
          rw [hrl, List.length_nil] at cR
          rw [hz1] at hlo hhi hbl3
          replace cT := Lib.hid cT
          replace cL := Lib.hid cL
          replace cR := Lib.hid cR
          replace cS := Lib.hid cS
          have hsr : ∀ (p : Option Addr) (w' : World), SRow w' p 0 [] := fun _ _ => ⟨rfl, .inl rfl⟩
          replace hsr := Lib.hid hsr
          clear hcb
          have hg4 : decide (cw < n) = false := decide_eq_false (by omega)
          have hg5 : decide (all.length < cw) = false := decide_eq_false (by omega)
          have hg1 : decide (((cw : Nat) : Int) < (n : Int)) = false := decide_eq_false (by omega)
          have hg2 : decide (((all.length : Nat) : Int) < ((cw : Nat) : Int)) = false := decide_eq_false (by omega)
          clear hrec hrl0
          replace hO := Lib.hid hO
          unfold sv at cT
          generalize (⟨j3.text.toArray⟩ : ByteArray) = tx at *
          go_wp2_with fail
          refine cT.out.mono ?_
          rintro e v6 ⟨rfl, n6, hv6⟩
          have hb6 : Below v5.heap.size v5 v6 := by rw [hv6]; exact below_dn (Below.refl _ _) n6
          clear hv6
          replace hb6 := Lib.hid hb6
          go_wp2_with fail
          refine (cL.out _ hb6.out).mono ?_
          rintro e v7 ⟨rfl, n7, hv7⟩
          have hb7 : Below v5.heap.size v5 v7 := by rw [hv7]; exact below_dn hb6.out n7
          clear hv7
          replace hb7 := Lib.hid hb7
          go_upto_region 32 with (fail)
          have hbc0 : Hid (Below v5.heap.size v5 v7.drew) := Lib.hid hb7.out.drew
          go_region_held3 (fun _ => True) (exact trivial) (first
            | (go_at_call 28; (with_reducible refine (cR.out _ hbc0.out).mono ?_); rintro e v8 ⟨⟨p8, cap8, rfl, hs8⟩, hb8⟩; have hr8 := hsr.out; have hb8' := hbc0.out.trans (hb8.mono hbc0.out.size); replace hs8 := Lib.hid hs8; replace hr8 := Lib.hid hr8; replace hb8' := Lib.hid hb8'; clear hb8)
            | (go_at_call 27; (with_reducible refine (cS.out _ _ _ _ _ hs8.out (hr8.out _ _)).mono ?_); rintro e v9 ⟨rfl, n9, hv9⟩; have hb9 : Below v5.heap.size v5 v9 := (by rw [hv9]; exact below_dn hb8'.out n9); clear hv9; replace hb9 := Lib.hid hb9))
          go_wp2_with fail
          go_ret
          exact ⟨rfl, hW1.out.trans ((hV5.bel.trans (hb9.out.mono hV5.bel.size)).mono (by have := hW1.out.size; omega))⟩
        · have hall := hp.length_le
          have hlo := hO.lo
          have hhi := hO.hi
          have hbl3 := hO.bl
          have hrec : j3.recs = (all.take j3.last).drop j3.base := by
            rw [hO.recs]
            obtain ⟨r, rfl⟩ := hp
            rw [List.take_append_of_le_length hhi]
          have hrl0 : j3.recs.length = j3.last - j3.base := by rw [hrec, List.length_drop, List.length_take]; omega
          have hsr : ∀ w', Below v5.heap.size v5 w' → SRow w' (some ⟨gw, j3.base, none⟩) j3.recs.length j3.recs := fun w' hb => by
            have := (hrw.kept hb).part (n := j3.base) (m := j3.last) hbl3 (by omega)
            rw [Nat.zero_add, ← hrec, ← hrl0] at this
            exact this
          have cT := vj_text hV5
          have cL := fun w' (hb : Below v5.heap.size v5 w') => vj_last (hV5.later hb) (by omega)
          have cR := fun w' (hb : Below v5.heap.size v5 w') => vj_records (hV5.later hb) (by omega)
          have cS := fun (p1 p2 : Option Addr) (c1 c2 : Nat) (w' : World) (h1 : SRow w' p1 j3.recs.length j3.recs) (h2 : SRow w' p2 j3.recs.length j3.recs) => same_any p1 p2 j3.recs.length j3.recs.length c1 c2 j3.recs j3.recs w' h1 h2 (by unfold JM.last at hhi; omega)
          rw [decide_eq_true rfl] at cS
          replace cT := Lib.hid cT
          replace cL := Lib.hid cL
          replace cR := Lib.hid cR
          replace cS := Lib.hid cS
          replace hsr := Lib.hid hsr
          have hg4 : decide (j3.last < n) = false := decide_eq_false (by omega)
          have hg5 : decide (all.length < j3.last) = false := decide_eq_false (by omega)
          have hg1 : decide (((j3.last : Nat) : Int) < (n : Int)) = false := decide_eq_false (by omega)
          have hg2 : decide (((all.length : Nat) : Int) < ((j3.last : Nat) : Int)) = false := decide_eq_false (by omega)
          have hg6 : decide (j3.last < j3.base) = false := decide_eq_false (by omega)
          have hg3 : decide (((j3.last : Nat) : Int) < ((j3.base : Nat) : Int)) = false := decide_eq_false (by omega)
          have hq4 : ((j3.base : Nat) : Int) ≤ ((j3.last : Nat) : Int) := by omega
          have hq5 : ((j3.last : Nat) : Int) ≤ (cw : Int) := by omega
          have hq7 : (j3.last - j3.base) = j3.recs.length := hrl0.symm
          have hq8 : j3.last ≤ cw := by omega
          clear hrec hrl0
          replace hO := Lib.hid hO
          unfold sv at cT
          generalize (⟨j3.text.toArray⟩ : ByteArray) = tx at *
          go_wp2_with fail
          refine cT.out.mono ?_
          rintro e v6 ⟨rfl, n6, hv6⟩
          have hb6 : Below v5.heap.size v5 v6 := by rw [hv6]; exact below_dn (Below.refl _ _) n6
          clear hv6
          replace hb6 := Lib.hid hb6
          go_wp2_with fail
          refine (cL.out _ hb6.out).mono ?_
          rintro e v7 ⟨rfl, n7, hv7⟩
          have hb7 : Below v5.heap.size v5 v7 := by rw [hv7]; exact below_dn hb6.out n7
          clear hv7
          replace hb7 := Lib.hid hb7
          go_upto_region 32 with (fail)
          have hbc0 : Hid (Below v5.heap.size v5 v7.drew) := Lib.hid hb7.out.drew
          go_region_held3 (fun _ => True) (exact trivial) (first
            | (go_at_call 28; (with_reducible refine (cR.out _ hbc0.out).mono ?_); rintro e v8 ⟨⟨p8, cap8, rfl, hs8⟩, hb8⟩; have hr8 := (hsr.out _ (hbc0.out.trans (hb8.mono hbc0.out.size))); have hb8' := hbc0.out.trans (hb8.mono hbc0.out.size); replace hs8 := Lib.hid hs8; replace hr8 := Lib.hid hr8; replace hb8' := Lib.hid hb8'; clear hb8)
            | (go_at_call 27; (with_reducible refine (cS.out _ _ _ _ _ hs8.out hr8.out).mono ?_); rintro e v9 ⟨rfl, n9, hv9⟩; have hb9 : Below v5.heap.size v5 v9 := (by rw [hv9]; exact below_dn hb8'.out n9); clear hv9; replace hb9 := Lib.hid hb9))
          go_wp2_with fail
          go_ret
          exact ⟨rfl, hW1.out.trans ((hV5.bel.trans (hb9.out.mono hV5.bel.size)).mono (by have := hW1.out.size; omega))⟩
end Go.Proofs.Ytidofjjghbhaaaa
