/- The contracts of worth's told, both, together, netBy, shortBy.
  The contract of worth's shortBy.
  The contracts of worth's both, has, accountOf, by.
  The contract of worth's by. -/
import Derived.Test.YtiehbbhjpcnbnaaGreatMAE
import Derived.Test.YtiehbbhjpcnbnaaGreatMAG
import Derived.Test.YtiehbbhjpcnbnaaGreatMAH
namespace Go.Proofs.YtiehbbhjpcnbnaaGreat
open Go.RowKit
set_option linter.unusedVariables false

/-- a standing's cells -/
def s12 (f : Nat → Int) (n s : Int × Int) : Array Value := #[.int .i64 (f 0), .int .i64 (f 1), .int .i64 (f 2), .int .i64 (f 3), .int .i64 (f 4), .int .i64 (f 5), .int .i64 (f 6), .int .i64 (f 7), .int .i64 n.1, .int .i64 n.2, .int .i64 s.1, .int .i64 s.2]
theorem s12_get (f : Nat → Int) (n s : Int × Int) {c : Nat} (h : c < 8) : (s12 f n s)[c]? = some (.int .i64 (f c)) := by
  rcases lt8 h with rfl | rfl | rfl | rfl | rfl | rfl | rfl | rfl <;> rfl

set_option maxHeartbeats 1000000 in
theorem told_any (a e : Int) (w : World) : Calls Tryz.prog 117 #[.agg #[.int .i64 a, .int .i64 e]] w fun r w' => r = .returned (.tuple #[.int .i64 a, .int .i64 e]) ∧ Below w.heap.size w w' := by
  have hb := heap_alloc_new w (.cells #[.int .i64 a, .int .i64 e] 135)
  have hB : Below w.heap.size w (w.alloc (.cells #[.int .i64 a, .int .i64 e] 135)) := (Below.refl _ w).alloc (Nat.le_refl _) _
  replace hB := Lib.hid hB
  go_enter Tryz.func117, Tryz.ntmps117
  go_upto_region 1 with (fail)
  generalize hv : w.alloc (.cells #[.int .i64 a, .int .i64 e] 135) = v at *
  have d0 : v.cell? ⟨w.heap.size, 0, none⟩ = some (.int .i64 a) := obj_cell hb rfl
  have d1 : v.cell? ⟨w.heap.size, 1, none⟩ = some (.int .i64 e) := obj_cell hb rfl
  replace hv := Lib.hid hv
  go_quiet (fail)
  all_goals
    go_wp2_with fail
    go_ret2
    exact ⟨rfl, below_drewN hB.out _⟩

set_option maxHeartbeats 1000000 in
theorem together_any (p : Option Addr) (len cap : Nat) (zs : List Int) (w : World) (hs : Seq64 w p len zs) :
    Calls Tryz.prog 119 #[.slice p len cap] w fun e w' => e = .returned (.agg #[.int .i64 (chainL 0 zs).1, .int .i64 (chainL 0 zs).2]) ∧ Below w.heap.size w w' := by
  have hB : Below w.heap.size w (w.alloc (.cells #[.int .i64 0, .int .i64 0] 135)) := (Below.refl _ w).alloc (Nat.le_refl _) _
  have hc := Lib.hid (chain_any 0 p len cap zs _ ⟨by decide, by decide⟩ (hs.kept hB))
  have hb := heap_alloc_new w (.cells #[.int .i64 0, .int .i64 0] 135)
  replace hB := Lib.hid hB
  replace hs := Lib.hid hs
  go_enter Tryz.func119, Tryz.ntmps119
  go_upto_region 1 with (fail)
  generalize hv : w.alloc (.cells #[.int .i64 0, .int .i64 0] 135) = v at *
  have hbl := obj_lt hb
  go_wp2_with fail
  (with_reducible refine hc.out.mono ?_)
  rintro e w1 ⟨rfl, hb1⟩
  have ho := (hb1.block _ hbl).trans hb
  have q0 : w1.cell? ⟨w.heap.size, 0, none⟩ = some (.int .i64 0) := obj_cell ho rfl
  have q1 : w1.cell? ⟨w.heap.size, 1, none⟩ = some (.int .i64 0) := obj_cell ho rfl
  have z := obj_free ho
  have hbu : Below w.heap.size w w1 := hB.out.trans (hb1.mono (by omega))
  replace hb1 := Lib.hid hb1
  replace hbu := Lib.hid hbu
  replace ho := Lib.hid ho
  go_wp2_with fail
  refine bodyPost_ret (v := .agg #[.int .i64 (chainL 0 zs).1, .int .i64 (chainL 0 zs).2]) ?_ rfl ⟨rfl, ?_⟩
  · simp [results, Tryz.results119, go_sem, q0, q1]
  · exact (hbu.out.setCell (Nat.le_refl _) _).setCell (Nat.le_refl _) _
end Go.Proofs.YtiehbbhjpcnbnaaGreat
namespace Go.Proofs.YtiehbbhjpcnbnaaGreat
open Go.RowKit
set_option linter.unusedVariables false
theorem ownI_seq {B : Nat} {w : World} {p : Option Addr} {n cap : Nat} {l : List Int} (h : OwnI B w (.slice p n cap) l) (e : l.length = n) (hx : ∀ x ∈ l, In64 x) (hl : n ≤ 1000) : Seq64 w p n l := by
  subst e; exact h.seq hx hl
/-- netBy's way -/
structure NB (v : World) (cs : List Cur) (f : Nat → Int) (k : Nat) (q : Option Addr) (c : Nat) (wr : World) : Prop where
  own : OwnI v.heap.size wr (.slice q k c) (worths cs f k 0)
  all : ∀ i, i < k → In64 (worthT (cAt cs i) (f i))
  blw : Below v.heap.size v wr

set_option maxRecDepth 100000 in
set_option maxHeartbeats 4000000 in
theorem netBy_any (f : Nat → Int) (n0 s0 : Int × Int) (p : Option Addr) (len cap : Nat) (cs : List Cur) (w : World) (hT : Tab w p len cs) (hl : len ≤ 8) (ho : ∀ i, i < len → oobB (cAt cs i) = false) (hin : ∀ i, In64 (f i)) :
    Calls Tryz.prog 99 #[.agg (s12 f n0 s0), .slice p len cap] w fun e w' => e = .returned (.agg #[.int .i64 (netF cs f len 0 0).1, .int .i64 (netF cs f len 0 0).2]) ∧ Below w.heap.size w w' := by
  obtain ⟨N, hN⟩ : ∃ N, netF cs f len 0 0 = N := ⟨_, rfl⟩
  have hB0 : Below w.heap.size w ((w.alloc (.cells (s12 f n0 s0) 137)).alloc (.cells #[.int .i64 0, .int .i64 0] 135)) := ((Below.refl _ w).alloc (Nat.le_refl _) _).alloc (by simp) _
  have hbx := heap_alloc2_old w (.cells (s12 f n0 s0) 137) (.cells #[.int .i64 0, .int .i64 0] 135)
  have hrx := heap_alloc2_new w (.cells (s12 f n0 s0) 137) (.cells #[.int .i64 0, .int .i64 0] 135)
  have hTv := hT.kept hB0
  have hvs : ((w.alloc (.cells (s12 f n0 s0) 137)).alloc (.cells #[.int .i64 0, .int .i64 0] 135)).heap.size = w.heap.size + 2 := by simp
  rw [hN]
  generalize hv : (w.alloc (.cells (s12 f n0 s0) 137)).alloc (.cells #[.int .i64 0, .int .i64 0] 135) = v at *
  unfold s12 at hv ⊢
  have hS0 : NB v cs f 0 none 0 v := ⟨World.ownsRow_nil _ _ _ _, fun i hi => by omega, Below.refl _ _⟩
  replace hS0 := Lib.hid hS0
  replace hN := Lib.hid hN
  replace hT := Lib.hid hT
  replace hTv := Lib.hid hTv
  replace ho := Lib.hid ho
  replace hin := Lib.hid hin
  replace hv := Lib.hid hv
  replace hB0 := Lib.hid hB0
  replace hbx := Lib.hid hbx
  replace hrx := Lib.hid hrx
  go_enter Tryz.func99, Tryz.ntmps99
  go_upto_region 1 with (fail)
  rw [hv.out]
  go_upto_region 3 with (fail)
  go_loopw [5, 11] (fun s i wr => ∃ (k : Nat) (q : Option Addr) (c : Nat), k ≤ len ∧ i = .int .i64 (k : Int) ∧ s = .slice q k c ∧ Hid (NB v cs f k q c wr)) (fun _ i _ => len - (intOf i).toNat)
  case atStart => exact ⟨0, none, 0, by omega, rfl, rfl, hS0⟩
  case round =>
    obtain ⟨k, q, c, hk, rfl, rfl, hS⟩ := hrel
    have hT1 := hS.out
    have hws := hT1.blw.size
    have hox := (hT1.blw.block _ (by omega)).trans hrx.out
    by_cases hkl : k < len
    · have hkz : (k : Int) < (len : Int) := by omega
      have hk8 : (k : Int) < 8 := by omega
      have hcell : wr.cell? ⟨w.heap.size, k, none⟩ = some (.int .i64 (f k)) := obj_cell ((hT1.blw.block _ (by omega)).trans hbx.out) (s12_get f n0 s0 (by omega))
      have hW := Lib.hid (worth_any p len cap cs k (f k) wr (hTv.out.kept hT1.blw) hkl (hin.out k) (ho.out k hkl))
      obtain ⟨y, hy⟩ : ∃ y, worthT (cAt cs k) (f k) = y := ⟨_, rfl⟩
      rw [hy] at hW
      by_cases hy1 : In64 y
      · rw [(fit_in hy1).1, (fit_in hy1).2] at hW
        replace hT1 := Lib.hid hT1
        replace hy1 := Lib.hid hy1
        replace hy := Lib.hid hy
        replace hox := Lib.hid hox
        go_upto_region 8 with (first | (go_at_call 118; (with_reducible refine hW.out.mono ?_); rintro e w1 ⟨rfl, hb1⟩; replace hb1 := Lib.hid hb1))
        have hT2 := hT1.out
        have hw1 := hb1.out.size
        have hO1 : OwnI v.heap.size w1 (.slice q k c) (worths cs f k 0) := hT2.own.block fun g hg => hb1.out.block g (hT2.own.lt g hg).2
        have hO2 : OwnI v.heap.size (w1.alloc (.cells #[.int .i64 y] 2)) (.slice q k c) (worths cs f k 0) := hO1.block fun g hg => Below.heap_alloc _ _ _ (hO1.lt g hg).2
        have hxa : (w1.alloc (.cells #[.int .i64 y] 2)).cell? ((⟨w1.heap.size, 0, none⟩ : Addr).add 0) = some (.int .i64 y) := obj_cell (heap_alloc_new w1 (.cells #[.int .i64 y] 2)) rfl
        obtain ⟨v', w', hrun, hO, hG, hL⟩ := appX_run _ v.heap.size _ _ hO2 (by simp; omega) _ _ hxa (by rw [worths_len]; omega)
        have hll : (worths cs f k 0 ++ [y]).length = k + 1 := by rw [List.length_append, worths_len]; rfl
        obtain ⟨q', c', hvj⟩ := hO.shape
        rw [hll] at hvj
        have hfin : NB v cs f (k + 1) q' c' w' := by
          refine ⟨?_, fun i hi => ?_, ?_⟩
          · rw [worths_snoc, Nat.zero_add, hy.out, ← hvj]; exact hO
          · by_cases e : i < k
            · exact hT2.all i e
            · obtain rfl : i = k := by omega
              rw [hy.out]; exact hy1.out
          · exact ((hT2.blw.trans (hb1.out.mono hws)).alloc (by omega) _).grown hG (by simp; omega) (fun g hg => (hO2.lt g hg).1)
        rw [hvj] at hrun
        replace hrun := Lib.hid hrun
        replace hfin := Lib.hid hfin
        replace hG := Lib.hid hG
        replace hL := Lib.hid hL
        replace hO := Lib.hid hO
        replace hO1 := Lib.hid hO1
        replace hO2 := Lib.hid hO2
        replace hT2 := Lib.hid hT2
        replace hxa := Lib.hid hxa
        replace hvj := Lib.hid hvj
        go_wp2_with (at_builtin; refine wpList_apx rfl _ _ _ _ rfl _ _ _ _ rfl rfl hrun.out ?_)
        go_roundw
        case rel => exact ⟨k + 1, q', c', by omega, by go_num, rfl, hfin⟩
        case measure => simp [intOf]; omega
      · rw [(fit_out hy1).1, (fit_out hy1).2] at hW
        have hNf : N = (0, 3) := by rw [← hN.out]; exact net_fail cs f len 0 0 k hkl (by rw [Nat.zero_add, hy]; exact hy1)
        replace hT1 := Lib.hid hT1
        replace hy1 := Lib.hid hy1
        replace hy := Lib.hid hy
        replace hox := Lib.hid hox
        go_upto_region 7 with (first | (go_at_call 118; (with_reducible refine hW.out.mono ?_); rintro e w1 ⟨rfl, hb1⟩; replace hb1 := Lib.hid hb1))
        have hox1 := (hb1.out.block _ (obj_lt hox.out)).trans hox.out
        have q0 : w1.cell? ⟨w.heap.size + 1, 0, none⟩ = some (.int .i64 0) := obj_cell hox1 rfl
        have q1 : w1.cell? ⟨w.heap.size + 1, 1, none⟩ = some (.int .i64 0) := obj_cell hox1 rfl
        have z := obj_free hox1
        have hbu : Below w.heap.size w w1 := hB0.out.trans ((hT1.out.blw.trans (hb1.out.mono hws)).mono (by omega))
        replace hox1 := Lib.hid hox1
        replace hbu := Lib.hid hbu
        replace hNf := Lib.hid hNf
        go_wp2_with fail
        refine bodyPost_ret (v := .agg #[.int .i64 0, .int .i64 3]) ?_ rfl ⟨by rw [hNf.out], ?_⟩
        · simp [results, Tryz.results99, go_sem, q0, q1]
        · exact (hbu.out.setCell (Nat.le_succ _) _).setCell (Nat.le_succ _) _
    · obtain rfl : k = len := by omega
      have hkz : ¬ (k : Int) < (k : Int) := by omega
      have hNf : N = chainL 0 (worths cs f k 0) := by rw [← hN.out]; exact net_chain cs f k 0 0 fun i hi => by rw [Nat.zero_add]; exact hT1.all i hi
      have hseq : Seq64 wr q k (worths cs f k 0) := ownI_seq hT1.own (worths_len cs f k 0) (fun x hx => by
        obtain ⟨i, hi, e⟩ := worths_mem hx
        rw [Nat.zero_add] at e
        rw [e]; exact hT1.all i hi) (by omega)
      have hC := Lib.hid (together_any q k c (worths cs f k 0) wr hseq)
      replace hT1 := Lib.hid hT1
      replace hox := Lib.hid hox
      replace hseq := Lib.hid hseq
      replace hNf := Lib.hid hNf
      go_wp2_with (first | (go_at_call 119; (with_reducible refine hC.out.mono ?_); rintro e w1 ⟨rfl, hb1⟩; have hox1 := (hb1.block _ (obj_lt hox.out)).trans hox.out; have q0 : w1.cell? ⟨w.heap.size + 1, 0, none⟩ = some (.int .i64 0) := obj_cell hox1 rfl; have q1 : w1.cell? ⟨w.heap.size + 1, 1, none⟩ = some (.int .i64 0) := obj_cell hox1 rfl; have z := obj_free hox1; replace hb1 := Lib.hid hb1; replace hox1 := Lib.hid hox1))
      refine bodyPost_ret (v := .agg #[.int .i64 (chainL 0 (worths cs f k 0)).1, .int .i64 (chainL 0 (worths cs f k 0)).2]) ?_ rfl ⟨by rw [hNf.out], ?_⟩
      · simp [results, Tryz.results99, go_sem, q0, q1]
      · exact ((hB0.out.trans ((hT1.out.blw.trans (hb1.out.mono hws)).mono (by omega))).setCell (Nat.le_succ _) _).setCell (Nat.le_succ _) _
end Go.Proofs.YtiehbbhjpcnbnaaGreat
namespace Go.Proofs.YtiehbbhjpcnbnaaGreat
open Go.RowKit
set_option linter.unusedVariables false
/-- shortBy's way -/
structure SHB (v : World) (cs : List Cur) (f : Nat → Int) (k : Nat) (q : Option Addr) (n c : Nat) (wr : World) : Prop where
  own : OwnI v.heap.size wr (.slice q n c) (shorts cs f k 0)
  len : (shorts cs f k 0).length = n
  all : ∀ i, i < k → sOk cs f i
  blw : Below v.heap.size v wr

set_option maxRecDepth 100000 in
set_option maxHeartbeats 4000000 in
theorem shortBy_any (f : Nat → Int) (n0 s0 : Int × Int) (p : Option Addr) (len cap : Nat) (cs : List Cur) (w : World) (hT : Tab w p len cs) (hl : len ≤ 8) (ho : ∀ i, i < len → oobB (cAt cs i) = false) (hin : ∀ i, In64 (f i)) :
    Calls Tryz.prog 100 #[.agg (s12 f n0 s0), .slice p len cap] w fun e w' => e = .returned (.agg #[.int .i64 (shortF cs f len 0 0).1, .int .i64 (shortF cs f len 0 0).2]) ∧ Below w.heap.size w w' := by
  obtain ⟨N, hN⟩ : ∃ N, shortF cs f len 0 0 = N := ⟨_, rfl⟩
  have hB0 : Below w.heap.size w ((w.alloc (.cells (s12 f n0 s0) 137)).alloc (.cells #[.int .i64 0, .int .i64 0] 135)) := ((Below.refl _ w).alloc (Nat.le_refl _) _).alloc (by simp) _
  have hbx := heap_alloc2_old w (.cells (s12 f n0 s0) 137) (.cells #[.int .i64 0, .int .i64 0] 135)
  have hrx := heap_alloc2_new w (.cells (s12 f n0 s0) 137) (.cells #[.int .i64 0, .int .i64 0] 135)
  have hTv := hT.kept hB0
  have hvs : ((w.alloc (.cells (s12 f n0 s0) 137)).alloc (.cells #[.int .i64 0, .int .i64 0] 135)).heap.size = w.heap.size + 2 := by simp
  rw [hN]
  generalize hv : (w.alloc (.cells (s12 f n0 s0) 137)).alloc (.cells #[.int .i64 0, .int .i64 0] 135) = v at *
  unfold s12 at hv ⊢
  have hS0 : SHB v cs f 0 none 0 0 v := ⟨World.ownsRow_nil _ _ _ _, rfl, fun i hi => by omega, Below.refl _ _⟩
  replace hS0 := Lib.hid hS0
  replace hN := Lib.hid hN
  replace hT := Lib.hid hT
  replace hTv := Lib.hid hTv
  replace ho := Lib.hid ho
  replace hin := Lib.hid hin
  replace hv := Lib.hid hv
  replace hB0 := Lib.hid hB0
  replace hbx := Lib.hid hbx
  replace hrx := Lib.hid hrx
  go_enter Tryz.func100, Tryz.ntmps100
  go_upto_region 1 with (fail)
  rw [hv.out]
  go_upto_region 3 with (fail)
  go_loopw [5, 12] (fun s i wr => ∃ (k : Nat) (q : Option Addr) (n c : Nat), k ≤ len ∧ i = .int .i64 (k : Int) ∧ s = .slice q n c ∧ Hid (SHB v cs f k q n c wr)) (fun _ i _ => len - (intOf i).toNat)
  case atStart => exact ⟨0, none, 0, 0, by omega, rfl, rfl, hS0⟩
  case round =>
    obtain ⟨k, q, n, c, hk, rfl, rfl, hS⟩ := hrel
    have hT1 := hS.out
    have hws := hT1.blw.size
    have hox := (hT1.blw.block _ (by omega)).trans hrx.out
    have hnl : n ≤ k := by have := shorts_len cs f k 0; rw [hT1.len] at this; exact this
    by_cases hkl : k < len
    · have hkz : (k : Int) < (len : Int) := by omega
      have hk8 : (k : Int) < 8 := by omega
      have hcell : wr.cell? ⟨w.heap.size, k, none⟩ = some (.int .i64 (f k)) := obj_cell ((hT1.blw.block _ (by omega)).trans hbx.out) (s12_get f n0 s0 (by omega))
      by_cases hneg : 0 ≤ f k
      · have hfin : SHB v cs f (k + 1) q n c wr := by
          have e : shorts cs f (k + 1) 0 = shorts cs f k 0 := by rw [shorts_snoc, Nat.zero_add, if_pos hneg]
          refine ⟨by rw [e]; exact hT1.own, by rw [e]; exact hT1.len, fun i hi => ?_, hT1.blw⟩
          by_cases e : i < k
          · exact hT1.all i e
          · obtain rfl : i = k := by omega
            exact .inl hneg
        replace hT1 := Lib.hid hT1
        replace hox := Lib.hid hox
        replace hfin := Lib.hid hfin
        go_wp2_with fail
        go_roundw
        case rel => exact ⟨k + 1, q, n, c, by omega, by go_num, rfl, hfin⟩
        case measure => simp [intOf]; omega
      · have hW := Lib.hid (plain_any p len cap cs k (f k) wr (hTv.out.kept hT1.blw) hkl (hin.out k) (ho.out k hkl))
        have hy0 := plain_neg (ho.out k hkl) hneg
        obtain ⟨y, hy⟩ : ∃ y, plainT (cAt cs k) (f k) = y := ⟨_, rfl⟩
        rw [hy] at hW hy0
        have hneg2 : ¬ f k ≥ 0 := hneg
        have hox2 := obj_lt hox
        by_cases hy1 : In64 y
        · rw [(fit_in hy1).1, (fit_in hy1).2] at hW
          have hZ := fun w => size_any y w hy1.1 hy1.2
          rw [abs_neg hy0] at hZ
          by_cases hy2 : In64 (-y)
          · rw [(fit_in hy2).1, (fit_in hy2).2] at hZ
            replace hT1 := Lib.hid hT1
            replace hy1 := Lib.hid hy1
            replace hy2 := Lib.hid hy2
            replace hy := Lib.hid hy
            replace hZ := Lib.hid hZ
            replace hox := Lib.hid hox
            go_upto_region 12 with (first | (go_at_call 120; (with_reducible refine hW.out.mono ?_); rintro e w1 ⟨rfl, hb1⟩; replace hb1 := Lib.hid hb1) | (go_at_call 121; (with_reducible refine (hZ.out _).mono ?_); rintro e w2 ⟨rfl, rfl⟩))
            have hT2 := hT1.out
            have hw1 := hb1.out.size
            have hO1 : OwnI v.heap.size w1 (.slice q n c) (shorts cs f k 0) := hT2.own.block fun g hg => hb1.out.block g (hT2.own.lt g hg).2
            have hO2 : OwnI v.heap.size (w1.alloc (.cells #[.int .i64 (-y)] 2)) (.slice q n c) (shorts cs f k 0) := hO1.block fun g hg => Below.heap_alloc _ _ _ (hO1.lt g hg).2
            have hxa : (w1.alloc (.cells #[.int .i64 (-y)] 2)).cell? ((⟨w1.heap.size, 0, none⟩ : Addr).add 0) = some (.int .i64 (-y)) := obj_cell (heap_alloc_new w1 (.cells #[.int .i64 (-y)] 2)) rfl
            obtain ⟨v', w', hrun, hO, hG, hL⟩ := appX_run _ v.heap.size _ _ hO2 (by simp; omega) _ _ hxa (by rw [hT2.len]; omega)
            have hll : (shorts cs f k 0 ++ [-y]).length = n + 1 := by rw [List.length_append, hT2.len]; rfl
            obtain ⟨q', c', hvj⟩ := hO.shape
            rw [hll] at hvj
            have e1 : shorts cs f (k + 1) 0 = shorts cs f k 0 ++ [-y] := by rw [shorts_snoc, Nat.zero_add, if_neg (by omega), hy.out]
            have hfin : SHB v cs f (k + 1) q' (n + 1) c' w' := by
              refine ⟨by rw [e1, ← hvj]; exact hO, by rw [e1]; exact hll, fun i hi => ?_, ?_⟩
              · by_cases e : i < k
                · exact hT2.all i e
                · obtain rfl : i = k := by omega
                  refine .inr ?_
                  rw [hy.out]; exact ⟨hy1.out, hy2.out⟩
              · exact ((hT2.blw.trans (hb1.out.mono hws)).alloc (by omega) _).grown hG (by simp; omega) (fun g hg => (hO2.lt g hg).1)
            rw [hvj] at hrun
            replace hrun := Lib.hid hrun
            replace hfin := Lib.hid hfin
            replace hG := Lib.hid hG
            replace hL := Lib.hid hL
            replace hO := Lib.hid hO
            replace hO1 := Lib.hid hO1
            replace hO2 := Lib.hid hO2
            replace hT2 := Lib.hid hT2
            replace hxa := Lib.hid hxa
            replace hvj := Lib.hid hvj
            go_wp2_with (at_builtin; refine wpList_apx rfl _ _ _ _ rfl _ _ _ _ rfl rfl hrun.out ?_)
            go_roundw
            case rel => exact ⟨k + 1, q', n + 1, c', by omega, by go_num, rfl, hfin⟩
            case measure => simp [intOf]; omega
          · rw [(fit_out hy2).1, (fit_out hy2).2] at hZ
            have hNf : N = (0, 3) := by rw [← hN.out]; exact short_fail cs f len 0 0 k hkl (by rw [Nat.zero_add]; unfold sOk; rw [hy]; exact fun h => h.elim hneg fun h => hy2 h.2)
            replace hT1 := Lib.hid hT1
            replace hy1 := Lib.hid hy1
            replace hy2 := Lib.hid hy2
            replace hy := Lib.hid hy
            replace hZ := Lib.hid hZ
            replace hox := Lib.hid hox
            go_upto_region 11 with (first | (go_at_call 120; (with_reducible refine hW.out.mono ?_); rintro e w1 ⟨rfl, hb1⟩; replace hb1 := Lib.hid hb1) | (go_at_call 121; (with_reducible refine (hZ.out _).mono ?_); rintro e w2 ⟨rfl, rfl⟩))
            have hox1 := (hb1.out.block _ (obj_lt hox.out)).trans hox.out
            have q0 : w1.cell? ⟨w.heap.size + 1, 0, none⟩ = some (.int .i64 0) := obj_cell hox1 rfl
            have q1 : w1.cell? ⟨w.heap.size + 1, 1, none⟩ = some (.int .i64 0) := obj_cell hox1 rfl
            have z := obj_free hox1
            have hbu : Below w.heap.size w w1 := hB0.out.trans ((hT1.out.blw.trans (hb1.out.mono hws)).mono (by omega))
            replace hox1 := Lib.hid hox1
            replace hbu := Lib.hid hbu
            replace hNf := Lib.hid hNf
            go_wp2_with fail
            refine bodyPost_ret (v := .agg #[.int .i64 0, .int .i64 3]) ?_ rfl ⟨by rw [hNf.out], ?_⟩
            · simp [results, Tryz.results100, go_sem, q0, q1]
            · exact (hbu.out.setCell (Nat.le_succ _) _).setCell (Nat.le_succ _) _
        · rw [(fit_out hy1).1, (fit_out hy1).2] at hW
          have hNf : N = (0, 3) := by rw [← hN.out]; exact short_fail cs f len 0 0 k hkl (by rw [Nat.zero_add]; unfold sOk; rw [hy]; exact fun h => h.elim hneg fun h => hy1 h.1)
          replace hT1 := Lib.hid hT1
          replace hy1 := Lib.hid hy1
          replace hy := Lib.hid hy
          replace hox := Lib.hid hox
          go_upto_region 8 with (first | (go_at_call 120; (with_reducible refine hW.out.mono ?_); rintro e w1 ⟨rfl, hb1⟩; replace hb1 := Lib.hid hb1))
          have hox1 := (hb1.out.block _ (obj_lt hox.out)).trans hox.out
          have q0 : w1.cell? ⟨w.heap.size + 1, 0, none⟩ = some (.int .i64 0) := obj_cell hox1 rfl
          have q1 : w1.cell? ⟨w.heap.size + 1, 1, none⟩ = some (.int .i64 0) := obj_cell hox1 rfl
          have z := obj_free hox1
          have hbu : Below w.heap.size w w1 := hB0.out.trans ((hT1.out.blw.trans (hb1.out.mono hws)).mono (by omega))
          replace hox1 := Lib.hid hox1
          replace hbu := Lib.hid hbu
          replace hNf := Lib.hid hNf
          go_wp2_with fail
          refine bodyPost_ret (v := .agg #[.int .i64 0, .int .i64 3]) ?_ rfl ⟨by rw [hNf.out], ?_⟩
          · simp [results, Tryz.results100, go_sem, q0, q1]
          · exact (hbu.out.setCell (Nat.le_succ _) _).setCell (Nat.le_succ _) _
    · obtain rfl : k = len := by omega
      have hkz : ¬ (k : Int) < (k : Int) := by omega
      have hNf : N = chainL 0 (shorts cs f k 0) := by rw [← hN.out]; exact short_chain cs f k 0 0 fun i hi => by rw [Nat.zero_add]; exact hT1.all i hi
      have hseq : Seq64 wr q n (shorts cs f k 0) := ownI_seq hT1.own hT1.len (fun x hx => by
        obtain ⟨i, hi, hb, e⟩ := shorts_mem hx
        rw [Nat.zero_add] at hb e
        rw [e]; exact ((hT1.all i hi).resolve_left hb).2) (by omega)
      have hC := Lib.hid (together_any q n c (shorts cs f k 0) wr hseq)
      replace hT1 := Lib.hid hT1
      replace hox := Lib.hid hox
      replace hseq := Lib.hid hseq
      replace hNf := Lib.hid hNf
      go_wp2_with (first | (go_at_call 119; (with_reducible refine hC.out.mono ?_); rintro e w1 ⟨rfl, hb1⟩; have hox1 := (hb1.block _ (obj_lt hox.out)).trans hox.out; have q0 : w1.cell? ⟨w.heap.size + 1, 0, none⟩ = some (.int .i64 0) := obj_cell hox1 rfl; have q1 : w1.cell? ⟨w.heap.size + 1, 1, none⟩ = some (.int .i64 0) := obj_cell hox1 rfl; have z := obj_free hox1; replace hb1 := Lib.hid hb1; replace hox1 := Lib.hid hox1))
      refine bodyPost_ret (v := .agg #[.int .i64 (chainL 0 (shorts cs f k 0)).1, .int .i64 (chainL 0 (shorts cs f k 0)).2]) ?_ rfl ⟨by rw [hNf.out], ?_⟩
      · simp [results, Tryz.results100, go_sem, q0, q1]
      · exact ((hB0.out.trans ((hT1.out.blw.trans (hb1.out.mono hws)).mono (by omega))).setCell (Nat.le_succ _) _).setCell (Nat.le_succ _) _
end Go.Proofs.YtiehbbhjpcnbnaaGreat
namespace Go.Proofs.YtiehbbhjpcnbnaaGreat
open Go.RowKit
set_option linter.unusedVariables false

/-- both is the first error, or both amounts -/
def bothV (n s : Int × Int) : Int × Int × Int := if n.2 = 0 then (if s.2 = 0 then (n.1, s.1, 0) else (0, 0, s.2)) else (0, 0, n.2)
set_option maxHeartbeats 2000000 in
set_option maxRecDepth 100000 in
theorem both_any (f : Nat → Int) (n s : Int × Int) (w : World) :
    Calls Tryz.prog 98 #[.agg (s12 f n s)] w fun e w' => e = .returned (.tuple #[.int .i64 (bothV n s).1, .int .i64 (bothV n s).2.1, .int .i64 (bothV n s).2.2]) ∧ Below w.heap.size w w' := by
  obtain ⟨n1, n2⟩ := n
  obtain ⟨s1, s2⟩ := s
  have hB0 : Below w.heap.size w (w.alloc (.cells (s12 f (n1, n2) (s1, s2)) 137)) := (Below.refl _ w).alloc (Nat.le_refl _) _
  have hbx := heap_alloc_new w (.cells (s12 f (n1, n2) (s1, s2)) 137)
  generalize hv : w.alloc (.cells (s12 f (n1, n2) (s1, s2)) 137) = v at *
  have d8 : v.cell? ⟨w.heap.size, 8, none⟩ = some (.int .i64 n1) := obj_cell hbx rfl
  have d9 : v.cell? ⟨w.heap.size, 9, none⟩ = some (.int .i64 n2) := obj_cell hbx rfl
  have hbl := obj_lt hbx
  have hT := fun w => told_any n1 n2 w
  have hT2 := fun w => told_any s1 s2 w
  unfold s12 at hv ⊢
  replace hv := Lib.hid hv
  replace hT := Lib.hid hT
  replace hT2 := Lib.hid hT2
  replace hbx := Lib.hid hbx
  replace hB0 := Lib.hid hB0
  obtain ⟨R, hR⟩ : ∃ R, bothV (n1, n2) (s1, s2) = R := ⟨_, rfl⟩
  rw [hR]
  replace hR := Lib.hid hR
  by_cases h1 : n2 = 0
  · subst h1
    go_enter Tryz.func98, Tryz.ntmps98
    go_upto_region 1 with (fail)
    rw [hv.out]
    go_upto_region 4 with (first | (go_at_call 117; (with_reducible refine (hT.out _).mono ?_); rintro e w1 ⟨rfl, hb1⟩))
    have hx1 := (hb1.block _ hbl).trans hbx.out
    have d10 : w1.cell? ⟨w.heap.size, 10, none⟩ = some (.int .i64 s1) := obj_cell hx1 rfl
    have d11 : w1.cell? ⟨w.heap.size, 11, none⟩ = some (.int .i64 s2) := obj_cell hx1 rfl
    replace hx1 := Lib.hid hx1
    replace hb1 := Lib.hid hb1
    by_cases h2 : s2 = 0
    · subst h2
      go_wp2_with (first | (go_at_call 117; (with_reducible refine (hT2.out _).mono ?_); rintro e w2 ⟨rfl, hb2⟩; replace hb2 := Lib.hid hb2))
      go_ret3
      exact ⟨by rw [← hR.out]; rfl, chain_trans (chain_trans hB0.out hb1.out) hb2.out⟩
    · have h3 : (s2 != 0) = true := by simpa using h2
      go_wp2_with (first | (go_at_call 117; (with_reducible refine (hT2.out _).mono ?_); rintro e w2 ⟨rfl, hb2⟩; replace hb2 := Lib.hid hb2))
      go_ret3
      exact ⟨by rw [← hR.out, show bothV (n1, 0) (s1, s2) = (0, 0, s2) from if_neg h2]; rfl, chain_trans (chain_trans hB0.out hb1.out) hb2.out⟩
  · have h3 : (n2 != 0) = true := by simpa using h1
    go_enter Tryz.func98, Tryz.ntmps98
    go_upto_region 1 with (fail)
    rw [hv.out]
    go_wp2_with (first | (go_at_call 117; (with_reducible refine (hT.out _).mono ?_); rintro e w1 ⟨rfl, hb1⟩; replace hb1 := Lib.hid hb1))
    go_ret3
    exact ⟨by rw [← hR.out, show bothV (n1, n2) (s1, s2) = (0, 0, n2) from if_neg h1]; rfl, chain_trans hB0.out hb1.out⟩
end Go.Proofs.YtiehbbhjpcnbnaaGreat
namespace Go.Proofs.YtiehbbhjpcnbnaaGreat
open Go.RowKit
set_option linter.unusedVariables false

/-- what every order keeps, and each operation's forerunners are listed -/
theorem wp_region_closed {P : Program} {id : Nat} {ops : Array Oper} {Q : Exit → Act → World → Prop} {a : Act} {w : World} (hm : P.follows .mixedOrders = true) (I : (Nat → Bool) → Act → World → Prop)
    (hd : ((List.range ops.size).all fun i => (deps .any ops i).all (· < i)) = true)
    (hbeg : I (fun _ => false) a w.drew)
    (hstep : ∀ L a w i, i < ops.size → L i = false → I L a w → (∀ j ∈ deps .any ops i, L j = true) → (∀ i, L i = true → ∀ j ∈ deps .any ops i, L j = true) → wpOp P ops Q i (fun a' w' => I (add L i) a' w') a w)
    (hend : ∀ L a w, I L a w → (∀ i, i < ops.size → L i = true) → Q .normal a w) : (Code.region id ops true).wp P Q a w := by
  refine wp_region_keeps hm (fun L a w => (∀ i, L i = true → ∀ j ∈ deps .any ops i, L j = true) ∧ I L a w) hd ⟨nofun, hbeg⟩ (fun L a w i h1 h2 h3 h4 => ?_) (fun L a w h => hend L a w h.2)
  refine wpOp_mono (fun a' w' h => ⟨fun k hk j hj => ?_, h⟩) (hstep L a w i h1 h2 h3.2 h4 h3.1)
  rcases add_iff.1 hk with hk | rfl
  · exact add_old (h3.1 k hk j hj)
  · exact add_old (h4 j hj)

/-- a box of a standing -/
def B12 (w : World) (p : Nat) (f : Nat → Int) (n s : Int × Int) : Prop := w.heap[p]? = some (.cells (s12 f n s) 137 (0, 0))
theorem B12.cells {w : World} {p : Nat} {f : Nat → Int} {n s : Int × Int} (h : B12 w p f n s) : w.cell? ⟨p, 0, none⟩ = some (.int .i64 (f 0)) ∧ w.cell? ⟨p, 1, none⟩ = some (.int .i64 (f 1)) ∧ w.cell? ⟨p, 2, none⟩ = some (.int .i64 (f 2)) ∧ w.cell? ⟨p, 3, none⟩ = some (.int .i64 (f 3)) ∧
    w.cell? ⟨p, 4, none⟩ = some (.int .i64 (f 4)) ∧ w.cell? ⟨p, 5, none⟩ = some (.int .i64 (f 5)) ∧ w.cell? ⟨p, 6, none⟩ = some (.int .i64 (f 6)) ∧ w.cell? ⟨p, 7, none⟩ = some (.int .i64 (f 7)) ∧
    w.cell? ⟨p, 8, none⟩ = some (.int .i64 n.1) ∧ w.cell? ⟨p, 9, none⟩ = some (.int .i64 n.2) ∧ w.cell? ⟨p, 10, none⟩ = some (.int .i64 s.1) ∧ w.cell? ⟨p, 11, none⟩ = some (.int .i64 s.2) :=
  ⟨obj_cell h rfl, obj_cell h rfl, obj_cell h rfl, obj_cell h rfl, obj_cell h rfl, obj_cell h rfl, obj_cell h rfl, obj_cell h rfl, obj_cell h rfl, obj_cell h rfl, obj_cell h rfl, obj_cell h rfl⟩
def BX8 (w : World) (p : Nat) (f : Nat → Int) : Prop := w.heap[p]? = some (.cells (r8 f) 133 (0, 0))
theorem B12.net {w : World} {p : Nat} {f : Nat → Int} {n s : Int × Int} (h : B12 w p f n s) (m : Int × Int) : B12 ((w.setCell ⟨p, 8, none⟩ (.int .i64 m.1)).setCell ⟨p, 9, none⟩ (.int .i64 m.2)) p f m s := obj_set (obj_set h 8 _) 9 _
theorem B12.short {w : World} {p : Nat} {f : Nat → Int} {n s : Int × Int} (h : B12 w p f n s) (m : Int × Int) : B12 ((w.setCell ⟨p, 10, none⟩ (.int .i64 m.1)).setCell ⟨p, 11, none⟩ (.int .i64 m.2)) p f n m := obj_set (obj_set h 10 _) 11 _

/-- accountOf's way -/
structure ASt (w : World) (l : LM) (m : Int) (k : Nat) (g : Nat → Int) (wr : World) : Prop where
  box : wr.heap[w.heap.size + 1]? = some (.cells (r8 g) 133 (0, 0))
  res : wr.heap[w.heap.size]? = some (.cells (r8 fun _ => 0) 133 (0, 0))
  got : ∀ c, c < k → g c = l.get m (c : Nat)
  blw : Below w.heap.size w wr

set_option maxHeartbeats 2000000 in
set_option maxRecDepth 100000 in
theorem account_any {P : Nat → Prop} {b gB cB : Nat} {l : LM} (m : Int) (w : World) (h : PLv P w b l gB cB) :
    Calls Tryz.prog 69 #[.pointer (some ⟨b, 0, none⟩), .int .i64 m] w fun e w' => e = .returned (.agg (r8 fun c => l.get m (c : Nat))) ∧ Below w.heap.size w w' := by
  have hS0 : ASt w l m 0 (fun _ => 0) ((w.alloc (.cells (r8 fun _ => 0) 133)).alloc (.cells (r8 fun _ => 0) 133)) :=
    ⟨heap_alloc2_new w _ _, heap_alloc2_old w _ _, fun c hc => by omega, ((Below.refl _ w).alloc (Nat.le_refl _) _).alloc (by simp) _⟩
  generalize hv : (w.alloc (.cells (r8 fun _ => 0) 133)).alloc (.cells (r8 fun _ => 0) 133) = v at *
  unfold r8 at hv
  replace hS0 := Lib.hid hS0
  replace h := Lib.hid h
  replace hv := Lib.hid hv
  obtain ⟨R, hR⟩ : ∃ R, r8 (fun c => l.get m (c : Nat)) = R := ⟨_, rfl⟩
  rw [hR]
  replace hR := Lib.hid hR
  go_enter Tryz.func69, Tryz.ntmps69
  go_upto_region 2 with (fail)
  rw [hv.out]
  go_upto_region 3 with (fail)
  go_loopw [7] (fun i wr => ∃ (k : Nat) (g : Nat → Int), k ≤ 8 ∧ i = .int .i64 (k : Int) ∧ Hid (ASt w l m k g wr)) (fun i _ => 8 - (intOf i).toNat)
  case atStart => exact ⟨0, _, by omega, rfl, hS0⟩
  case round =>
    obtain ⟨k, g, hk, rfl, hS⟩ := hrel
    have hT := hS.out
    by_cases hkl : k < 8
    · have hkz : (k : Int) < 8 := by omega
      have hG := Lib.hid (get_any m (k : Int) wr (h.out.below hT.blw))
      have hx0 : wr.cell? ⟨w.heap.size + 1, k, none⟩ = some (.int .i64 (g k)) := obj_cell hT.box (r8_get g hkl)
      have hz := obj_free hT.box k
      have hfin : ASt w l m (k + 1) (upd g k (l.get m (k : Nat))) (wr.setCell ⟨w.heap.size + 1, k, none⟩ (.int .i64 (l.get m (k : Nat)))) := by
        refine ⟨?_, (obj_other _ (by show w.heap.size ≠ w.heap.size + 1; omega)).trans hT.res, fun c hc => ?_, hT.blw.setCell (Nat.le_succ _) _⟩
        · rw [← r8_set g hkl]; exact obj_set hT.box k _
        · unfold upd
          by_cases e : c = k
          · subst e; rw [if_pos rfl]
          · rw [if_neg e]; exact hT.got c (by omega)
      replace hT := Lib.hid hT
      replace hfin := Lib.hid hfin
      go_wp2_with (first | (go_at_call 21; (with_reducible refine hG.out.mono ?_); rintro e w1 ⟨rfl, rfl⟩))
      go_roundw
      case rel => exact ⟨k + 1, _, by omega, by go_num, hfin⟩
      case measure => simp [intOf]; omega
    · obtain rfl : k = 8 := by omega
      have x0 : wr.cell? ⟨w.heap.size + 1, 0, none⟩ = some (.int .i64 (g 0)) := obj_cell hT.box rfl
      have x1 : wr.cell? ⟨w.heap.size + 1, 1, none⟩ = some (.int .i64 (g 1)) := obj_cell hT.box rfl
      have x2 : wr.cell? ⟨w.heap.size + 1, 2, none⟩ = some (.int .i64 (g 2)) := obj_cell hT.box rfl
      have x3 : wr.cell? ⟨w.heap.size + 1, 3, none⟩ = some (.int .i64 (g 3)) := obj_cell hT.box rfl
      have x4 : wr.cell? ⟨w.heap.size + 1, 4, none⟩ = some (.int .i64 (g 4)) := obj_cell hT.box rfl
      have x5 : wr.cell? ⟨w.heap.size + 1, 5, none⟩ = some (.int .i64 (g 5)) := obj_cell hT.box rfl
      have x6 : wr.cell? ⟨w.heap.size + 1, 6, none⟩ = some (.int .i64 (g 6)) := obj_cell hT.box rfl
      have x7 : wr.cell? ⟨w.heap.size + 1, 7, none⟩ = some (.int .i64 (g 7)) := obj_cell hT.box rfl
      have q0 : wr.cell? ⟨w.heap.size, 0, none⟩ = some (.int .i64 0) := obj_cell hT.res rfl
      have q1 : wr.cell? ⟨w.heap.size, 1, none⟩ = some (.int .i64 0) := obj_cell hT.res rfl
      have q2 : wr.cell? ⟨w.heap.size, 2, none⟩ = some (.int .i64 0) := obj_cell hT.res rfl
      have q3 : wr.cell? ⟨w.heap.size, 3, none⟩ = some (.int .i64 0) := obj_cell hT.res rfl
      have q4 : wr.cell? ⟨w.heap.size, 4, none⟩ = some (.int .i64 0) := obj_cell hT.res rfl
      have q5 : wr.cell? ⟨w.heap.size, 5, none⟩ = some (.int .i64 0) := obj_cell hT.res rfl
      have q6 : wr.cell? ⟨w.heap.size, 6, none⟩ = some (.int .i64 0) := obj_cell hT.res rfl
      have q7 : wr.cell? ⟨w.heap.size, 7, none⟩ = some (.int .i64 0) := obj_cell hT.res rfl
      have hz := obj_free hT.res
      have e8 : r8 g = R := by rw [← hR.out]; exact r8_ext fun c hc => hT.got c hc
      unfold r8 at e8
      replace e8 := Lib.hid e8
      replace hT := Lib.hid hT
      go_wp2_with fail
      refine bodyPost_ret (v := .agg R) ?_ rfl ⟨rfl, ?_⟩
      · rw [← e8.out]; simp [results, Tryz.results69, go_sem, q0, q1, q2, q3, q4, q5, q6, q7]
      · exact (((((((hT.out.blw.setCell (Nat.le_refl _) _).setCell (Nat.le_refl _) _).setCell (Nat.le_refl _) _).setCell (Nat.le_refl _) _).setCell (Nat.le_refl _) _).setCell (Nat.le_refl _) _).setCell (Nat.le_refl _) _).setCell (Nat.le_refl _) _
end Go.Proofs.YtiehbbhjpcnbnaaGreat
namespace Go.Proofs.YtiehbbhjpcnbnaaGreat
open Go.RowKit
set_option linter.unusedVariables false

set_option maxHeartbeats 4000000 in
set_option maxRecDepth 100000 in
theorem by_any (f : Nat → Int) (p : Option Addr) (len cap : Nat) (cs : List Cur) (w : World) (hT : Tab w p len cs) (hl : len ≤ 8) (ho : ∀ i, i < len → oobB (cAt cs i) = false) (hin : ∀ i, In64 (f i)) :
    Calls Tryz.prog 70 #[.agg (r8 f), .slice p len cap] w fun e w' => e = .returned (.agg (s12 f (netF cs f len 0 0) (shortF cs f len 0 0))) ∧ Below w.heap.size w w' := by
  obtain ⟨NV, hN⟩ : ∃ N, netF cs f len 0 0 = N := ⟨_, rfl⟩
  obtain ⟨SV, hS⟩ : ∃ N, shortF cs f len 0 0 = N := ⟨_, rfl⟩
  rw [hN, hS]
  obtain ⟨R, hR⟩ : ∃ R, s12 f NV SV = R := ⟨_, rfl⟩
  rw [hR]
  have hx0 : BX8 ((w.alloc (.cells (r8 f) 133)).alloc (.cells (s12 (fun _ => 0) (0, 0) (0, 0)) 137)) w.heap.size f := heap_alloc2_old w _ _
  have hr0 : B12 ((w.alloc (.cells (r8 f) 133)).alloc (.cells (s12 (fun _ => 0) (0, 0) (0, 0)) 137)) (w.heap.size + 1) (fun _ => 0) (0, 0) (0, 0) := heap_alloc2_new w _ _
  have hB0 : Below w.heap.size w ((w.alloc (.cells (r8 f) 133)).alloc (.cells (s12 (fun _ => 0) (0, 0) (0, 0)) 137)) := ((Below.refl _ w).alloc (Nat.le_refl _) _).alloc (by simp) _
  have hs0 : ((w.alloc (.cells (r8 f) 133)).alloc (.cells (s12 (fun _ => 0) (0, 0) (0, 0)) 137)).heap.size = w.heap.size + 2 := by simp
  generalize hv : (w.alloc (.cells (r8 f) 133)).alloc (.cells (s12 (fun _ => 0) (0, 0) (0, 0)) 137) = v at *
  have x0 : v.cell? ⟨w.heap.size, 0, none⟩ = some (.int .i64 (f 0)) := obj_cell hx0 rfl
  have x1 : v.cell? ⟨w.heap.size, 1, none⟩ = some (.int .i64 (f 1)) := obj_cell hx0 rfl
  have x2 : v.cell? ⟨w.heap.size, 2, none⟩ = some (.int .i64 (f 2)) := obj_cell hx0 rfl
  have x3 : v.cell? ⟨w.heap.size, 3, none⟩ = some (.int .i64 (f 3)) := obj_cell hx0 rfl
  have x4 : v.cell? ⟨w.heap.size, 4, none⟩ = some (.int .i64 (f 4)) := obj_cell hx0 rfl
  have x5 : v.cell? ⟨w.heap.size, 5, none⟩ = some (.int .i64 (f 5)) := obj_cell hx0 rfl
  have x6 : v.cell? ⟨w.heap.size, 6, none⟩ = some (.int .i64 (f 6)) := obj_cell hx0 rfl
  have x7 : v.cell? ⟨w.heap.size, 7, none⟩ = some (.int .i64 (f 7)) := obj_cell hx0 rfl
  have hb2 : B12 (v.alloc (.cells (s12 f (0, 0) (0, 0)) 137)) (w.heap.size + 2) f (0, 0) (0, 0) := by rw [← hs0]; exact heap_alloc_new v _
  have hB2 : Below v.heap.size v (v.alloc (.cells (s12 f (0, 0) (0, 0)) 137)) := (Below.refl _ v).alloc (Nat.le_refl _) _
  generalize hu : v.alloc (.cells (s12 f (0, 0) (0, 0)) 137) = u at *
  have hTv := hT.kept hB0
  unfold s12 r8 at hv
  unfold s12 at hu
  unfold r8
  replace hT := Lib.hid hT
  replace hTv := Lib.hid hTv
  replace ho := Lib.hid ho
  replace hin := Lib.hid hin
  replace hv := Lib.hid hv
  replace hu := Lib.hid hu
  replace hN := Lib.hid hN
  replace hS := Lib.hid hS
  replace hR := Lib.hid hR
  replace hx0 := Lib.hid hx0
  replace hr0 := Lib.hid hr0
  replace hb2 := Lib.hid hb2
  replace hB0 := Lib.hid hB0
  replace hB2 := Lib.hid hB2
  go_enter Tryz.func70, Tryz.ntmps70
  go_upto_region 1 with (fail)
  rw [hv.out]
  go_upto_region 2 with (fail)
  change Code.wp _ _ _ _ (v.alloc (.cells #[.int .i64 (f 0), .int .i64 (f 1), .int .i64 (f 2), .int .i64 (f 3), .int .i64 (f 4), .int .i64 (f 5), .int .i64 (f 6), .int .i64 (f 7), .int .i64 0, .int .i64 0, .int .i64 0, .int .i64 0] 137))
  rw [hu.out]
  clear x0 x1 x2 x3 x4 x5 x6 x7
  go_cut [] from 8 to 15 (fun wc => Hid (B12 wc (w.heap.size + 2) f NV SV) ∧ Hid (Below v.heap.size v wc))
  case first =>
    rename_i J1 K1 hJ1 hK1
    refine wp_region_closed (by kernel_rfl) (fun L az wz => ∃ v8 v9 v10 v11 v12 v13 v14 v15 : Value, az = ({ tmps := (Value.agg #[.int .i64 (f 0), .int .i64 (f 1), .int .i64 (f 2), .int .i64 (f 3), .int .i64 (f 4), .int .i64 (f 5), .int .i64 (f 6), .int .i64 (f 7)] :: Value.slice p len cap :: .pointer (some ⟨w.heap.size, 0, none⟩) :: undef :: .pointer (some ⟨w.heap.size + 1, 0, none⟩) :: .pointer (some ⟨w.heap.size + 2, 0, none⟩) :: Value.agg #[.int .i64 (f 0), .int .i64 (f 1), .int .i64 (f 2), .int .i64 (f 3), .int .i64 (f 4), .int .i64 (f 5), .int .i64 (f 6), .int .i64 (f 7)] :: Value.agg #[.int .i64 (f 0), .int .i64 (f 1), .int .i64 (f 2), .int .i64 (f 3), .int .i64 (f 4), .int .i64 (f 5), .int .i64 (f 6), .int .i64 (f 7), .int .i64 0, .int .i64 0, .int .i64 0, .int .i64 0] :: v8 :: v9 :: v10 :: v11 :: v12 :: v13 :: v14 :: v15 :: undef :: []).toArray, defers := [] } : Act) ∧ (∃ a b : Int × Int, B12 wz (w.heap.size + 2) f a b ∧ (L 7 = true → a = NV) ∧ (L 9 = true → b = SV)) ∧ (Below v.heap.size v wz) ∧ (L 0 = true → ∃ a b : Int × Int, v8 = .agg (s12 f a b)) ∧ (L 1 = true → v9 = Value.slice p len cap) ∧ (L 2 = true → v10 = .agg #[.int .i64 NV.1, .int .i64 NV.2]) ∧ (L 3 = true → ∃ a b : Int × Int, v11 = .agg (s12 f a b)) ∧ (L 4 = true → v12 = Value.slice p len cap) ∧ (L 5 = true → v13 = .agg #[.int .i64 SV.1, .int .i64 SV.2]) ∧ (L 6 = true → v14 = .pointer (some ⟨w.heap.size + 2, 8, none⟩)) ∧ (L 8 = true → v15 = .pointer (some ⟨w.heap.size + 2, 10, none⟩))) (by kernel_rfl) ?_ ?_ ?_
    · exact ⟨_, _, _, _, _, _, _, _, rfl, ⟨_, _, hb2.out, nofun, nofun⟩, hB2.out.drew, nofun, nofun, nofun, nofun, nofun, nofun, nofun, nofun⟩
    · intro L az wz i hi hni hI hdep hcl
      obtain ⟨v8, v9, v10, v11, v12, v13, v14, v15, rfl, hX, hB, h0, h1, h2, h3, h4, h5, h6, h8⟩ := hI
      have hcase : i = 0 ∨ i = 1 ∨ i = 2 ∨ i = 3 ∨ i = 4 ∨ i = 5 ∨ i = 6 ∨ i = 7 ∨ i = 8 ∨ i = 9 := by
        have hi2 : i < 10 := hi
        omega
      rcases hcase with rfl | rfl | rfl | rfl | rfl | rfl | rfl | rfl | rfl | rfl
      · -- 0
        obtain ⟨a, b, hx, h7, h9⟩ := hX
        obtain ⟨y0, y1, y2, y3, y4, y5, y6, y7, y8, y9, y10, y11⟩ := hx.cells
        have hx2 := Lib.hid hx
        refine wpOp_step rfl fun K hK => ?_
        go_simp
        exact hK _ _ ⟨_, _, _, _, _, _, _, _, rfl, ⟨a, b, hx, fun e => h7 (add_ne e (by decide)), fun e => h9 (add_ne e (by decide))⟩, hB, fun _ => ⟨a, b, rfl⟩, fun e => h1 (add_ne e (by decide)), fun e => h2 (add_ne e (by decide)), fun e => h3 (add_ne e (by decide)), fun e => h4 (add_ne e (by decide)), fun e => h5 (add_ne e (by decide)), fun e => h6 (add_ne e (by decide)), fun e => h8 (add_ne e (by decide))⟩
      · -- 1
        obtain ⟨a, b, hx, h7, h9⟩ := hX
        refine wpOp_step rfl fun K hK => ?_
        go_simp
        exact hK _ _ ⟨_, _, _, _, _, _, _, _, rfl, ⟨a, b, hx, fun e => h7 (add_ne e (by decide)), fun e => h9 (add_ne e (by decide))⟩, hB, fun e => h0 (add_ne e (by decide)), fun _ => rfl, fun e => h2 (add_ne e (by decide)), fun e => h3 (add_ne e (by decide)), fun e => h4 (add_ne e (by decide)), fun e => h5 (add_ne e (by decide)), fun e => h6 (add_ne e (by decide)), fun e => h8 (add_ne e (by decide))⟩
      · -- 2
        obtain ⟨a, b, hx, h7, h9⟩ := hX
        obtain ⟨a2, b2, e0⟩ := h0 (hdep 0 (by decide +kernel))
        subst e0
        have e1 := h1 (hdep 1 (by decide +kernel))
        subst e1
        have hc := netBy_any f a2 b2 p len cap cs wz (hTv.out.kept hB) hl ho.out hin.out
        rw [hN.out] at hc
        unfold s12 at hc
        unfold s12
        replace hc := Lib.hid hc
        refine wpOp_step rfl fun K hK => ?_
        go_simp
        go_at_call 99
        refine (hc.out).mono ?_
        rintro e w1 ⟨rfl, hb1⟩
        have hx2 : B12 w1 (w.heap.size + 2) f a b := (hb1.block _ (obj_lt hx)).trans hx
        have hB2 := hB.trans (hb1.mono hB.size)
        replace hx2 := Lib.hid hx2
        go_simp
        exact hK _ _ ⟨_, _, _, _, _, _, _, _, rfl, ⟨a, b, hx2.out, fun e => h7 (add_ne e (by decide)), fun e => h9 (add_ne e (by decide))⟩, hB2, fun e => h0 (add_ne e (by decide)), fun e => h1 (add_ne e (by decide)), fun _ => rfl, fun e => h3 (add_ne e (by decide)), fun e => h4 (add_ne e (by decide)), fun e => h5 (add_ne e (by decide)), fun e => h6 (add_ne e (by decide)), fun e => h8 (add_ne e (by decide))⟩
      · -- 3
        obtain ⟨a, b, hx, h7, h9⟩ := hX
        obtain ⟨y0, y1, y2, y3, y4, y5, y6, y7, y8, y9, y10, y11⟩ := hx.cells
        have hx2 := Lib.hid hx
        refine wpOp_step rfl fun K hK => ?_
        go_simp
        exact hK _ _ ⟨_, _, _, _, _, _, _, _, rfl, ⟨a, b, hx, fun e => h7 (add_ne e (by decide)), fun e => h9 (add_ne e (by decide))⟩, hB, fun e => h0 (add_ne e (by decide)), fun e => h1 (add_ne e (by decide)), fun e => h2 (add_ne e (by decide)), fun _ => ⟨a, b, rfl⟩, fun e => h4 (add_ne e (by decide)), fun e => h5 (add_ne e (by decide)), fun e => h6 (add_ne e (by decide)), fun e => h8 (add_ne e (by decide))⟩
      · -- 4
        obtain ⟨a, b, hx, h7, h9⟩ := hX
        refine wpOp_step rfl fun K hK => ?_
        go_simp
        exact hK _ _ ⟨_, _, _, _, _, _, _, _, rfl, ⟨a, b, hx, fun e => h7 (add_ne e (by decide)), fun e => h9 (add_ne e (by decide))⟩, hB, fun e => h0 (add_ne e (by decide)), fun e => h1 (add_ne e (by decide)), fun e => h2 (add_ne e (by decide)), fun e => h3 (add_ne e (by decide)), fun _ => rfl, fun e => h5 (add_ne e (by decide)), fun e => h6 (add_ne e (by decide)), fun e => h8 (add_ne e (by decide))⟩
      · -- 5
        obtain ⟨a, b, hx, h7, h9⟩ := hX
        obtain ⟨a2, b2, e3⟩ := h3 (hdep 3 (by decide +kernel))
        subst e3
        have e4 := h4 (hdep 4 (by decide +kernel))
        subst e4
        have hc := shortBy_any f a2 b2 p len cap cs wz (hTv.out.kept hB) hl ho.out hin.out
        rw [hS.out] at hc
        unfold s12 at hc
        unfold s12
        replace hc := Lib.hid hc
        refine wpOp_step rfl fun K hK => ?_
        go_simp
        go_at_call 100
        refine (hc.out).mono ?_
        rintro e w1 ⟨rfl, hb1⟩
        have hx2 : B12 w1 (w.heap.size + 2) f a b := (hb1.block _ (obj_lt hx)).trans hx
        have hB2 := hB.trans (hb1.mono hB.size)
        replace hx2 := Lib.hid hx2
        go_simp
        exact hK _ _ ⟨_, _, _, _, _, _, _, _, rfl, ⟨a, b, hx2.out, fun e => h7 (add_ne e (by decide)), fun e => h9 (add_ne e (by decide))⟩, hB2, fun e => h0 (add_ne e (by decide)), fun e => h1 (add_ne e (by decide)), fun e => h2 (add_ne e (by decide)), fun e => h3 (add_ne e (by decide)), fun e => h4 (add_ne e (by decide)), fun _ => rfl, fun e => h6 (add_ne e (by decide)), fun e => h8 (add_ne e (by decide))⟩
      · -- 6
        obtain ⟨a, b, hx, h7, h9⟩ := hX
        refine wpOp_step rfl fun K hK => ?_
        go_simp
        exact hK _ _ ⟨_, _, _, _, _, _, _, _, rfl, ⟨a, b, hx, fun e => h7 (add_ne e (by decide)), fun e => h9 (add_ne e (by decide))⟩, hB, fun e => h0 (add_ne e (by decide)), fun e => h1 (add_ne e (by decide)), fun e => h2 (add_ne e (by decide)), fun e => h3 (add_ne e (by decide)), fun e => h4 (add_ne e (by decide)), fun e => h5 (add_ne e (by decide)), fun _ => rfl, fun e => h8 (add_ne e (by decide))⟩
      · -- 7
        obtain ⟨a, b, hx, h7, h9⟩ := hX
        obtain ⟨y0, y1, y2, y3, y4, y5, y6, y7, y8, y9, y10, y11⟩ := hx.cells
        have hz := obj_free hx
        have e2 := h2 (hdep 2 (by decide +kernel))
        subst e2
        have e6 := h6 (hdep 6 (by decide +kernel))
        subst e6
        have hB3 := (hB.setCell (p := ⟨w.heap.size + 2, 8, none⟩) (by show v.heap.size ≤ w.heap.size + 2; omega) (.int .i64 NV.1)).setCell (p := ⟨w.heap.size + 2, 9, none⟩) (by show v.heap.size ≤ w.heap.size + 2; omega) (.int .i64 NV.2)
        have hx3 := hx.net NV
        replace hx3 := Lib.hid hx3
        replace hB3 := Lib.hid hB3
        replace hx := Lib.hid hx
        refine wpOp_step rfl fun K hK => ?_
        go_simp
        exact hK _ _ ⟨_, _, _, _, _, _, _, _, rfl, ⟨NV, b, hx3.out, fun _ => rfl, fun e => h9 (add_ne e (by decide))⟩, hB3.out, fun e => h0 (add_ne e (by decide)), fun e => h1 (add_ne e (by decide)), fun e => h2 (add_ne e (by decide)), fun e => h3 (add_ne e (by decide)), fun e => h4 (add_ne e (by decide)), fun e => h5 (add_ne e (by decide)), fun e => h6 (add_ne e (by decide)), fun e => h8 (add_ne e (by decide))⟩
      · -- 8
        obtain ⟨a, b, hx, h7, h9⟩ := hX
        refine wpOp_step rfl fun K hK => ?_
        go_simp
        exact hK _ _ ⟨_, _, _, _, _, _, _, _, rfl, ⟨a, b, hx, fun e => h7 (add_ne e (by decide)), fun e => h9 (add_ne e (by decide))⟩, hB, fun e => h0 (add_ne e (by decide)), fun e => h1 (add_ne e (by decide)), fun e => h2 (add_ne e (by decide)), fun e => h3 (add_ne e (by decide)), fun e => h4 (add_ne e (by decide)), fun e => h5 (add_ne e (by decide)), fun e => h6 (add_ne e (by decide)), fun _ => rfl⟩
      · -- 9
        obtain ⟨a, b, hx, h7, h9⟩ := hX
        obtain ⟨y0, y1, y2, y3, y4, y5, y6, y7, y8, y9, y10, y11⟩ := hx.cells
        have hz := obj_free hx
        have e5 := h5 (hdep 5 (by decide +kernel))
        subst e5
        have e8 := h8 (hdep 8 (by decide +kernel))
        subst e8
        have hB3 := (hB.setCell (p := ⟨w.heap.size + 2, 10, none⟩) (by show v.heap.size ≤ w.heap.size + 2; omega) (.int .i64 SV.1)).setCell (p := ⟨w.heap.size + 2, 11, none⟩) (by show v.heap.size ≤ w.heap.size + 2; omega) (.int .i64 SV.2)
        have hx3 := hx.short SV
        replace hx3 := Lib.hid hx3
        replace hB3 := Lib.hid hB3
        replace hx := Lib.hid hx
        refine wpOp_step rfl fun K hK => ?_
        go_simp
        exact hK _ _ ⟨_, _, _, _, _, _, _, _, rfl, ⟨a, SV, hx3.out, fun e => h7 (add_ne e (by decide)), fun _ => rfl⟩, hB3.out, fun e => h0 (add_ne e (by decide)), fun e => h1 (add_ne e (by decide)), fun e => h2 (add_ne e (by decide)), fun e => h3 (add_ne e (by decide)), fun e => h4 (add_ne e (by decide)), fun e => h5 (add_ne e (by decide)), fun e => h6 (add_ne e (by decide)), fun e => h8 (add_ne e (by decide))⟩
    · intro L az wz hI hL
      obtain ⟨v8, v9, v10, v11, v12, v13, v14, v15, rfl, hX, hB, h0, h1, h2, h3, h4, h5, h6, h8⟩ := hI
      obtain ⟨a, b, hx, h7, h9⟩ := hX
      refine hK1 _ _ (Met.intro (hJ1 _ _ ?_))
      (repeat apply Exists.intro)
      refine ⟨?rel, rfl⟩
      case rel => exact ⟨by rw [← h7 (hL 7 (by decide)), ← h9 (hL 9 (by decide))]; exact hx, hB⟩
  case rest =>
    obtain ⟨hxc, hBc⟩ := hcut
    obtain ⟨y0, y1, y2, y3, y4, y5, y6, y7, y8, y9, y10, y11⟩ := hxc.out.cells
    have hrc : B12 wc (w.heap.size + 1) (fun _ => 0) (0, 0) (0, 0) := (hBc.out.block _ (obj_lt hr0.out)).trans hr0.out
    obtain ⟨q0, q1, q2, q3, q4, q5, q6, q7, q8, q9, q10, q11⟩ := hrc.cells
    have hz := obj_free hrc
    have e8 := hR.out
    unfold s12 at e8
    replace e8 := Lib.hid e8
    go_wp2_with fail
    refine bodyPost_ret (v := .agg R) ?_ rfl ⟨rfl, ?_⟩
    · rw [← e8.out]; simp [results, Tryz.results70, go_sem, q0, q1, q2, q3, q4, q5, q6, q7, q8, q9, q10, q11]
    · have hBw : Below w.heap.size w wc := hB0.out.trans (hBc.out.mono (by omega))
      exact (((((((((((hBw.setCell (Nat.le_succ _) _).setCell (Nat.le_succ _) _).setCell (Nat.le_succ _) _).setCell (Nat.le_succ _) _).setCell (Nat.le_succ _) _).setCell (Nat.le_succ _) _).setCell (Nat.le_succ _) _).setCell (Nat.le_succ _) _).setCell (Nat.le_succ _) _).setCell (Nat.le_succ _) _).setCell (Nat.le_succ _) _).setCell (Nat.le_succ _) _
end Go.Proofs.YtiehbbhjpcnbnaaGreat
