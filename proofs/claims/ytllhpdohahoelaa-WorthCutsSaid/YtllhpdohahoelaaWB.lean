/- The contract of worth's shortBy. -/
import Derived.Test.YtllhpdohahoelaaWA
namespace Go.Proofs.Ytllhpdohahoelaa
open Go.RowKit
set_option linter.unusedVariables false
/-- shortBy's way -/
structure SHB (v : World) (cs : List Cur) (f : Nat → Int) (k : Nat) (q : Option Addr) (n c : Nat) (wr : World) : Prop where
  own : OwnI v.heap.size wr (.slice q n c) (shorts cs f k 0)
  len : (shorts cs f k 0).length = n
  all : ∀ i, i < k → sOk cs f i
  blw : Below v.heap.size v wr

set_option maxRecDepth 100000 in
set_option maxHeartbeats 4000000 in
theorem shortBy_any (f : Nat → Int) (n0 s0 : Int × Int) (p : Option Addr) (len cap : Nat) (cs : List Cur) (w : World) (hT : Tab w p len cs) (hl : len ≤ 8) (ho : ∀ i, i < len → oobB (cAt cs i) = false) (hin : ∀ i, In64 (f i)) :
    Calls Try.prog 69 #[.agg (s12 f n0 s0), .slice p len cap] w fun e w' => e = .returned (.agg #[.int .i64 (shortF cs f len 0 0).1, .int .i64 (shortF cs f len 0 0).2]) ∧ Below w.heap.size w w' := by
  obtain ⟨N, hN⟩ : ∃ N, shortF cs f len 0 0 = N := ⟨_, rfl⟩
  have hB0 : Below w.heap.size w ((w.alloc (.cells (s12 f n0 s0) 93)).alloc (.cells #[.int .i64 0, .int .i64 0] 91)) := ((Below.refl _ w).alloc (Nat.le_refl _) _).alloc (by simp) _
  have hbx := heap_alloc2_old w (.cells (s12 f n0 s0) 93) (.cells #[.int .i64 0, .int .i64 0] 91)
  have hrx := heap_alloc2_new w (.cells (s12 f n0 s0) 93) (.cells #[.int .i64 0, .int .i64 0] 91)
  have hTv := hT.kept hB0
  have hvs : ((w.alloc (.cells (s12 f n0 s0) 93)).alloc (.cells #[.int .i64 0, .int .i64 0] 91)).heap.size = w.heap.size + 2 := by simp
  rw [hN]
  generalize hv : (w.alloc (.cells (s12 f n0 s0) 93)).alloc (.cells #[.int .i64 0, .int .i64 0] 91) = v at *
  unfold s12 at hv ⊢
  have hS0 : SHB v cs f 0 none 0 0 v := ⟨World.ownsRow_nil _ _ _ _, rfl, fun i hi => by omega, Below.refl _ _⟩
  replace hS0 := Lib.hid hS0
  replace hN := Lib.hid hN
  replace hT := Lib.hid hT
  replace hTv := Lib.hid hTv
  replace ho := Lib.hid ho
  replace hin := Lib.hid hin
  replace hv := Lib.hid hv
  replace hB0 := Lib.hid hB0
  replace hbx := Lib.hid hbx
  replace hrx := Lib.hid hrx
  go_enter Try.func69, Try.ntmps69
  go_upto_region 1 with (fail)
  rw [hv.out]
  go_upto_region 3 with (fail)
  go_loopw [5, 12] (fun s i wr => ∃ (k : Nat) (q : Option Addr) (n c : Nat), k ≤ len ∧ i = .int .i64 (k : Int) ∧ s = .slice q n c ∧ Hid (SHB v cs f k q n c wr)) (fun _ i _ => len - (intOf i).toNat)
  case atStart => exact ⟨0, none, 0, 0, by omega, rfl, rfl, hS0⟩
  case round =>
    obtain ⟨k, q, n, c, hk, rfl, rfl, hS⟩ := hrel
    have hT1 := hS.out
    have hws := hT1.blw.size
    have hox := (hT1.blw.block _ (by omega)).trans hrx.out
    have hnl : n ≤ k := by have := shorts_len cs f k 0; rw [hT1.len] at this; exact this
    by_cases hkl : k < len
    · have hkz : (k : Int) < (len : Int) := by omega
      have hk8 : (k : Int) < 8 := by omega
      have hcell : wr.cell? ⟨w.heap.size, k, none⟩ = some (.int .i64 (f k)) := obj_cell ((hT1.blw.block _ (by omega)).trans hbx.out) (s12_get f n0 s0 (by omega))
      by_cases hneg : 0 ≤ f k
      · have hfin : SHB v cs f (k + 1) q n c wr := by
          have e : shorts cs f (k + 1) 0 = shorts cs f k 0 := by rw [shorts_snoc, Nat.zero_add, if_pos hneg]
          refine ⟨by rw [e]; exact hT1.own, by rw [e]; exact hT1.len, fun i hi => ?_, hT1.blw⟩
          by_cases e : i < k
          · exact hT1.all i e
          · obtain rfl : i = k := by omega
            exact .inl hneg
        replace hT1 := Lib.hid hT1
        replace hox := Lib.hid hox
        replace hfin := Lib.hid hfin
        go_wp2_with fail
        go_roundw
        case rel => exact ⟨k + 1, q, n, c, by omega, by go_num, rfl, hfin⟩
        case measure => simp [intOf]; omega
      · have hW := Lib.hid (plain_any p len cap cs k (f k) wr (hTv.out.kept hT1.blw) hkl (hin.out k) (ho.out k hkl))
        have hy0 := plain_neg (ho.out k hkl) hneg
        obtain ⟨y, hy⟩ : ∃ y, plainT (cAt cs k) (f k) = y := ⟨_, rfl⟩
        rw [hy] at hW hy0
        have hneg2 : ¬ f k ≥ 0 := hneg
        have hox2 := obj_lt hox
        by_cases hy1 : In64 y
        · rw [(fit_in hy1).1, (fit_in hy1).2] at hW
          have hZ := fun w => size_any y w hy1.1 hy1.2
          rw [abs_neg hy0] at hZ
          by_cases hy2 : In64 (-y)
          · rw [(fit_in hy2).1, (fit_in hy2).2] at hZ
            replace hT1 := Lib.hid hT1
            replace hy1 := Lib.hid hy1
            replace hy2 := Lib.hid hy2
            replace hy := Lib.hid hy
            replace hZ := Lib.hid hZ
            replace hox := Lib.hid hox
            go_upto_region 12 with (first | (go_at_call 85; (with_reducible refine hW.out.mono ?_); rintro e w1 ⟨rfl, hb1⟩; replace hb1 := Lib.hid hb1) | (go_at_call 86; (with_reducible refine (hZ.out _).mono ?_); rintro e w2 ⟨rfl, rfl⟩))
            have hT2 := hT1.out
            have hw1 := hb1.out.size
            have hO1 : OwnI v.heap.size w1 (.slice q n c) (shorts cs f k 0) := hT2.own.block fun g hg => hb1.out.block g (hT2.own.lt g hg).2
            have hO2 : OwnI v.heap.size (w1.alloc (.cells #[.int .i64 (-y)] 2)) (.slice q n c) (shorts cs f k 0) := hO1.block fun g hg => Below.heap_alloc _ _ _ (hO1.lt g hg).2
            have hxa : (w1.alloc (.cells #[.int .i64 (-y)] 2)).cell? ((⟨w1.heap.size, 0, none⟩ : Addr).add 0) = some (.int .i64 (-y)) := obj_cell (heap_alloc_new w1 (.cells #[.int .i64 (-y)] 2)) rfl
            obtain ⟨v', w', hrun, hO, hG, hL⟩ := appX_run _ v.heap.size _ _ hO2 (by simp; omega) _ _ hxa (by rw [hT2.len]; omega)
            have hll : (shorts cs f k 0 ++ [-y]).length = n + 1 := by rw [List.length_append, hT2.len]; rfl
            obtain ⟨q', c', hvj⟩ := hO.shape
            rw [hll] at hvj
            have e1 : shorts cs f (k + 1) 0 = shorts cs f k 0 ++ [-y] := by rw [shorts_snoc, Nat.zero_add, if_neg (by omega), hy.out]
            have hfin : SHB v cs f (k + 1) q' (n + 1) c' w' := by
              refine ⟨by rw [e1, ← hvj]; exact hO, by rw [e1]; exact hll, fun i hi => ?_, ?_⟩
              · by_cases e : i < k
                · exact hT2.all i e
                · obtain rfl : i = k := by omega
                  refine .inr ?_
                  rw [hy.out]; exact ⟨hy1.out, hy2.out⟩
              · exact ((hT2.blw.trans (hb1.out.mono hws)).alloc (by omega) _).grown hG (by simp; omega) (fun g hg => (hO2.lt g hg).1)
            rw [hvj] at hrun
            replace hrun := Lib.hid hrun
            replace hfin := Lib.hid hfin
            replace hG := Lib.hid hG
            replace hL := Lib.hid hL
            replace hO := Lib.hid hO
            replace hO1 := Lib.hid hO1
            replace hO2 := Lib.hid hO2
            replace hT2 := Lib.hid hT2
            replace hxa := Lib.hid hxa
            replace hvj := Lib.hid hvj
            go_wp2_with (at_builtin; refine wpList_apx rfl _ _ _ _ rfl _ _ _ _ rfl rfl hrun.out ?_)
            go_roundw
            case rel => exact ⟨k + 1, q', n + 1, c', by omega, by go_num, rfl, hfin⟩
            case measure => simp [intOf]; omega
          · rw [(fit_out hy2).1, (fit_out hy2).2] at hZ
            have hNf : N = (0, 3) := by rw [← hN.out]; exact short_fail cs f len 0 0 k hkl (by rw [Nat.zero_add]; unfold sOk; rw [hy]; exact fun h => h.elim hneg fun h => hy2 h.2)
            replace hT1 := Lib.hid hT1
            replace hy1 := Lib.hid hy1
            replace hy2 := Lib.hid hy2
            replace hy := Lib.hid hy
            replace hZ := Lib.hid hZ
            replace hox := Lib.hid hox
            go_upto_region 11 with (first | (go_at_call 85; (with_reducible refine hW.out.mono ?_); rintro e w1 ⟨rfl, hb1⟩; replace hb1 := Lib.hid hb1) | (go_at_call 86; (with_reducible refine (hZ.out _).mono ?_); rintro e w2 ⟨rfl, rfl⟩))
            have hox1 := (hb1.out.block _ (obj_lt hox.out)).trans hox.out
            have q0 : w1.cell? ⟨w.heap.size + 1, 0, none⟩ = some (.int .i64 0) := obj_cell hox1 rfl
            have q1 : w1.cell? ⟨w.heap.size + 1, 1, none⟩ = some (.int .i64 0) := obj_cell hox1 rfl
            have z := obj_free hox1
            have hbu : Below w.heap.size w w1 := hB0.out.trans ((hT1.out.blw.trans (hb1.out.mono hws)).mono (by omega))
            replace hox1 := Lib.hid hox1
            replace hbu := Lib.hid hbu
            replace hNf := Lib.hid hNf
            go_wp2_with fail
            refine bodyPost_ret (v := .agg #[.int .i64 0, .int .i64 3]) ?_ rfl ⟨by rw [hNf.out], ?_⟩
            · simp [results, Try.results69, go_sem, q0, q1]
            · exact (hbu.out.setCell (Nat.le_succ _) _).setCell (Nat.le_succ _) _
        · rw [(fit_out hy1).1, (fit_out hy1).2] at hW
          have hNf : N = (0, 3) := by rw [← hN.out]; exact short_fail cs f len 0 0 k hkl (by rw [Nat.zero_add]; unfold sOk; rw [hy]; exact fun h => h.elim hneg fun h => hy1 h.1)
          replace hT1 := Lib.hid hT1
          replace hy1 := Lib.hid hy1
          replace hy := Lib.hid hy
          replace hox := Lib.hid hox
          go_upto_region 8 with (first | (go_at_call 85; (with_reducible refine hW.out.mono ?_); rintro e w1 ⟨rfl, hb1⟩; replace hb1 := Lib.hid hb1))
          have hox1 := (hb1.out.block _ (obj_lt hox.out)).trans hox.out
          have q0 : w1.cell? ⟨w.heap.size + 1, 0, none⟩ = some (.int .i64 0) := obj_cell hox1 rfl
          have q1 : w1.cell? ⟨w.heap.size + 1, 1, none⟩ = some (.int .i64 0) := obj_cell hox1 rfl
          have z := obj_free hox1
          have hbu : Below w.heap.size w w1 := hB0.out.trans ((hT1.out.blw.trans (hb1.out.mono hws)).mono (by omega))
          replace hox1 := Lib.hid hox1
          replace hbu := Lib.hid hbu
          replace hNf := Lib.hid hNf
          go_wp2_with fail
          refine bodyPost_ret (v := .agg #[.int .i64 0, .int .i64 3]) ?_ rfl ⟨by rw [hNf.out], ?_⟩
          · simp [results, Try.results69, go_sem, q0, q1]
          · exact (hbu.out.setCell (Nat.le_succ _) _).setCell (Nat.le_succ _) _
    · obtain rfl : k = len := by omega
      have hkz : ¬ (k : Int) < (k : Int) := by omega
      have hNf : N = chainL 0 (shorts cs f k 0) := by rw [← hN.out]; exact short_chain cs f k 0 0 fun i hi => by rw [Nat.zero_add]; exact hT1.all i hi
      have hseq : Seq64 wr q n (shorts cs f k 0) := ownI_seq hT1.own hT1.len (fun x hx => by
        obtain ⟨i, hi, hb, e⟩ := shorts_mem hx
        rw [Nat.zero_add] at hb e
        rw [e]; exact ((hT1.all i hi).resolve_left hb).2) (by omega)
      have hC := Lib.hid (together_any q n c (shorts cs f k 0) wr hseq)
      replace hT1 := Lib.hid hT1
      replace hox := Lib.hid hox
      replace hseq := Lib.hid hseq
      replace hNf := Lib.hid hNf
      go_wp2_with (first | (go_at_call 84; (with_reducible refine hC.out.mono ?_); rintro e w1 ⟨rfl, hb1⟩; have hox1 := (hb1.block _ (obj_lt hox.out)).trans hox.out; have q0 : w1.cell? ⟨w.heap.size + 1, 0, none⟩ = some (.int .i64 0) := obj_cell hox1 rfl; have q1 : w1.cell? ⟨w.heap.size + 1, 1, none⟩ = some (.int .i64 0) := obj_cell hox1 rfl; have z := obj_free hox1; replace hb1 := Lib.hid hb1; replace hox1 := Lib.hid hox1))
      refine bodyPost_ret (v := .agg #[.int .i64 (chainL 0 (shorts cs f k 0)).1, .int .i64 (chainL 0 (shorts cs f k 0)).2]) ?_ rfl ⟨by rw [hNf.out], ?_⟩
      · simp [results, Try.results69, go_sem, q0, q1]
      · exact ((hB0.out.trans ((hT1.out.blw.trans (hb1.out.mono hws)).mono (by omega))).setCell (Nat.le_succ _) _).setCell (Nat.le_succ _) _
end Go.Proofs.Ytllhpdohahoelaa
