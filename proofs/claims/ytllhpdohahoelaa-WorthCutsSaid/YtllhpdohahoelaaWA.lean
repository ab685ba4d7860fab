/- The contracts of worth's told, both, together, netBy, shortBy. -/
import Derived.Test.YtllhpdohahoelaaNP
import Derived.Test.YtllhpdohahoelaaLH6
import Derived.Test.YtllhpdohahoelaaP7
namespace Go.Proofs.Ytllhpdohahoelaa
open Go.RowKit
set_option linter.unusedVariables false

/-- a standing's cells -/
def s12 (f : Nat → Int) (n s : Int × Int) : Array Value := #[.int .i64 (f 0), .int .i64 (f 1), .int .i64 (f 2), .int .i64 (f 3), .int .i64 (f 4), .int .i64 (f 5), .int .i64 (f 6), .int .i64 (f 7), .int .i64 n.1, .int .i64 n.2, .int .i64 s.1, .int .i64 s.2]
theorem s12_get (f : Nat → Int) (n s : Int × Int) {c : Nat} (h : c < 8) : (s12 f n s)[c]? = some (.int .i64 (f c)) := by
  rcases lt8 h with rfl | rfl | rfl | rfl | rfl | rfl | rfl | rfl <;> rfl

set_option maxHeartbeats 1000000 in
theorem told_any (a e : Int) (w : World) : Calls Try.prog 40 #[.agg #[.int .i64 a, .int .i64 e]] w fun r w' => r = .returned (.tuple #[.int .i64 a, .int .i64 e]) ∧ Below w.heap.size w w' := by
  have hb := heap_alloc_new w (.cells #[.int .i64 a, .int .i64 e] 91)
  have hB : Below w.heap.size w (w.alloc (.cells #[.int .i64 a, .int .i64 e] 91)) := (Below.refl _ w).alloc (Nat.le_refl _) _
  replace hB := Lib.hid hB
  go_enter Try.func40, Try.ntmps40
  go_upto_region 1 with (fail)
  generalize hv : w.alloc (.cells #[.int .i64 a, .int .i64 e] 91) = v at *
  have d0 : v.cell? ⟨w.heap.size, 0, none⟩ = some (.int .i64 a) := obj_cell hb rfl
  have d1 : v.cell? ⟨w.heap.size, 1, none⟩ = some (.int .i64 e) := obj_cell hb rfl
  replace hv := Lib.hid hv
  go_quiet (fail)
  all_goals
    go_wp2_with fail
    go_ret2
    exact ⟨rfl, below_drewN hB.out _⟩

set_option maxHeartbeats 1000000 in
theorem together_any (p : Option Addr) (len cap : Nat) (zs : List Int) (w : World) (hs : Seq64 w p len zs) :
    Calls Try.prog 84 #[.slice p len cap] w fun e w' => e = .returned (.agg #[.int .i64 (chainL 0 zs).1, .int .i64 (chainL 0 zs).2]) ∧ Below w.heap.size w w' := by
  have hB : Below w.heap.size w (w.alloc (.cells #[.int .i64 0, .int .i64 0] 91)) := (Below.refl _ w).alloc (Nat.le_refl _) _
  have hc := Lib.hid (chain_any 0 p len cap zs _ ⟨by decide, by decide⟩ (hs.kept hB))
  have hb := heap_alloc_new w (.cells #[.int .i64 0, .int .i64 0] 91)
  replace hB := Lib.hid hB
  replace hs := Lib.hid hs
  go_enter Try.func84, Try.ntmps84
  go_upto_region 1 with (fail)
  generalize hv : w.alloc (.cells #[.int .i64 0, .int .i64 0] 91) = v at *
  have hbl := obj_lt hb
  go_wp2_with fail
  (with_reducible refine hc.out.mono ?_)
  rintro e w1 ⟨rfl, hb1⟩
  have ho := (hb1.block _ hbl).trans hb
  have q0 : w1.cell? ⟨w.heap.size, 0, none⟩ = some (.int .i64 0) := obj_cell ho rfl
  have q1 : w1.cell? ⟨w.heap.size, 1, none⟩ = some (.int .i64 0) := obj_cell ho rfl
  have z := obj_free ho
  have hbu : Below w.heap.size w w1 := hB.out.trans (hb1.mono (by omega))
  replace hb1 := Lib.hid hb1
  replace hbu := Lib.hid hbu
  replace ho := Lib.hid ho
  go_wp2_with fail
  refine bodyPost_ret (v := .agg #[.int .i64 (chainL 0 zs).1, .int .i64 (chainL 0 zs).2]) ?_ rfl ⟨rfl, ?_⟩
  · simp [results, Try.results84, go_sem, q0, q1]
  · exact (hbu.out.setCell (Nat.le_refl _) _).setCell (Nat.le_refl _) _
end Go.Proofs.Ytllhpdohahoelaa
namespace Go.Proofs.Ytllhpdohahoelaa
open Go.RowKit
set_option linter.unusedVariables false
theorem ownI_seq {B : Nat} {w : World} {p : Option Addr} {n cap : Nat} {l : List Int} (h : OwnI B w (.slice p n cap) l) (e : l.length = n) (hx : ∀ x ∈ l, In64 x) (hl : n ≤ 1000) : Seq64 w p n l := by
  subst e; exact h.seq hx hl
/-- netBy's way -/
structure NB (v : World) (cs : List Cur) (f : Nat → Int) (k : Nat) (q : Option Addr) (c : Nat) (wr : World) : Prop where
  own : OwnI v.heap.size wr (.slice q k c) (worths cs f k 0)
  all : ∀ i, i < k → In64 (worthT (cAt cs i) (f i))
  blw : Below v.heap.size v wr

set_option maxRecDepth 100000 in
set_option maxHeartbeats 4000000 in
theorem netBy_any (f : Nat → Int) (n0 s0 : Int × Int) (p : Option Addr) (len cap : Nat) (cs : List Cur) (w : World) (hT : Tab w p len cs) (hl : len ≤ 8) (ho : ∀ i, i < len → oobB (cAt cs i) = false) (hin : ∀ i, In64 (f i)) :
    Calls Try.prog 68 #[.agg (s12 f n0 s0), .slice p len cap] w fun e w' => e = .returned (.agg #[.int .i64 (netF cs f len 0 0).1, .int .i64 (netF cs f len 0 0).2]) ∧ Below w.heap.size w w' := by
  obtain ⟨N, hN⟩ : ∃ N, netF cs f len 0 0 = N := ⟨_, rfl⟩
  have hB0 : Below w.heap.size w ((w.alloc (.cells (s12 f n0 s0) 93)).alloc (.cells #[.int .i64 0, .int .i64 0] 91)) := ((Below.refl _ w).alloc (Nat.le_refl _) _).alloc (by simp) _
  have hbx := heap_alloc2_old w (.cells (s12 f n0 s0) 93) (.cells #[.int .i64 0, .int .i64 0] 91)
  have hrx := heap_alloc2_new w (.cells (s12 f n0 s0) 93) (.cells #[.int .i64 0, .int .i64 0] 91)
  have hTv := hT.kept hB0
  have hvs : ((w.alloc (.cells (s12 f n0 s0) 93)).alloc (.cells #[.int .i64 0, .int .i64 0] 91)).heap.size = w.heap.size + 2 := by simp
  rw [hN]
  generalize hv : (w.alloc (.cells (s12 f n0 s0) 93)).alloc (.cells #[.int .i64 0, .int .i64 0] 91) = v at *
  unfold s12 at hv ⊢
  have hS0 : NB v cs f 0 none 0 v := ⟨World.ownsRow_nil _ _ _ _, fun i hi => by omega, Below.refl _ _⟩
  replace hS0 := Lib.hid hS0
  replace hN := Lib.hid hN
  replace hT := Lib.hid hT
  replace hTv := Lib.hid hTv
  replace ho := Lib.hid ho
  replace hin := Lib.hid hin
  replace hv := Lib.hid hv
  replace hB0 := Lib.hid hB0
  replace hbx := Lib.hid hbx
  replace hrx := Lib.hid hrx
  go_enter Try.func68, Try.ntmps68
  go_upto_region 1 with (fail)
  rw [hv.out]
  go_upto_region 3 with (fail)
  go_loopw [5, 11] (fun s i wr => ∃ (k : Nat) (q : Option Addr) (c : Nat), k ≤ len ∧ i = .int .i64 (k : Int) ∧ s = .slice q k c ∧ Hid (NB v cs f k q c wr)) (fun _ i _ => len - (intOf i).toNat)
  case atStart => exact ⟨0, none, 0, by omega, rfl, rfl, hS0⟩
  case round =>
    obtain ⟨k, q, c, hk, rfl, rfl, hS⟩ := hrel
    have hT1 := hS.out
    have hws := hT1.blw.size
    have hox := (hT1.blw.block _ (by omega)).trans hrx.out
    by_cases hkl : k < len
    · have hkz : (k : Int) < (len : Int) := by omega
      have hk8 : (k : Int) < 8 := by omega
      have hcell : wr.cell? ⟨w.heap.size, k, none⟩ = some (.int .i64 (f k)) := obj_cell ((hT1.blw.block _ (by omega)).trans hbx.out) (s12_get f n0 s0 (by omega))
      have hW := Lib.hid (worth_any p len cap cs k (f k) wr (hTv.out.kept hT1.blw) hkl (hin.out k) (ho.out k hkl))
      obtain ⟨y, hy⟩ : ∃ y, worthT (cAt cs k) (f k) = y := ⟨_, rfl⟩
      rw [hy] at hW
      by_cases hy1 : In64 y
      · rw [(fit_in hy1).1, (fit_in hy1).2] at hW
        replace hT1 := Lib.hid hT1
        replace hy1 := Lib.hid hy1
        replace hy := Lib.hid hy
        replace hox := Lib.hid hox
        go_upto_region 8 with (first | (go_at_call 83; (with_reducible refine hW.out.mono ?_); rintro e w1 ⟨rfl, hb1⟩; replace hb1 := Lib.hid hb1))
        have hT2 := hT1.out
        have hw1 := hb1.out.size
        have hO1 : OwnI v.heap.size w1 (.slice q k c) (worths cs f k 0) := hT2.own.block fun g hg => hb1.out.block g (hT2.own.lt g hg).2
        have hO2 : OwnI v.heap.size (w1.alloc (.cells #[.int .i64 y] 2)) (.slice q k c) (worths cs f k 0) := hO1.block fun g hg => Below.heap_alloc _ _ _ (hO1.lt g hg).2
        have hxa : (w1.alloc (.cells #[.int .i64 y] 2)).cell? ((⟨w1.heap.size, 0, none⟩ : Addr).add 0) = some (.int .i64 y) := obj_cell (heap_alloc_new w1 (.cells #[.int .i64 y] 2)) rfl
        obtain ⟨v', w', hrun, hO, hG, hL⟩ := appX_run _ v.heap.size _ _ hO2 (by simp; omega) _ _ hxa (by rw [worths_len]; omega)
        have hll : (worths cs f k 0 ++ [y]).length = k + 1 := by rw [List.length_append, worths_len]; rfl
        obtain ⟨q', c', hvj⟩ := hO.shape
        rw [hll] at hvj
        have hfin : NB v cs f (k + 1) q' c' w' := by
          refine ⟨?_, fun i hi => ?_, ?_⟩
          · rw [worths_snoc, Nat.zero_add, hy.out, ← hvj]; exact hO
          · by_cases e : i < k
            · exact hT2.all i e
            · obtain rfl : i = k := by omega
              rw [hy.out]; exact hy1.out
          · exact ((hT2.blw.trans (hb1.out.mono hws)).alloc (by omega) _).grown hG (by simp; omega) (fun g hg => (hO2.lt g hg).1)
        rw [hvj] at hrun
        replace hrun := Lib.hid hrun
        replace hfin := Lib.hid hfin
        replace hG := Lib.hid hG
        replace hL := Lib.hid hL
        replace hO := Lib.hid hO
        replace hO1 := Lib.hid hO1
        replace hO2 := Lib.hid hO2
        replace hT2 := Lib.hid hT2
        replace hxa := Lib.hid hxa
        replace hvj := Lib.hid hvj
        go_wp2_with (at_builtin; refine wpList_apx rfl _ _ _ _ rfl _ _ _ _ rfl rfl hrun.out ?_)
        go_roundw
        case rel => exact ⟨k + 1, q', c', by omega, by go_num, rfl, hfin⟩
        case measure => simp [intOf]; omega
      · rw [(fit_out hy1).1, (fit_out hy1).2] at hW
        have hNf : N = (0, 3) := by rw [← hN.out]; exact net_fail cs f len 0 0 k hkl (by rw [Nat.zero_add, hy]; exact hy1)
        replace hT1 := Lib.hid hT1
        replace hy1 := Lib.hid hy1
        replace hy := Lib.hid hy
        replace hox := Lib.hid hox
        go_upto_region 7 with (first | (go_at_call 83; (with_reducible refine hW.out.mono ?_); rintro e w1 ⟨rfl, hb1⟩; replace hb1 := Lib.hid hb1))
        have hox1 := (hb1.out.block _ (obj_lt hox.out)).trans hox.out
        have q0 : w1.cell? ⟨w.heap.size + 1, 0, none⟩ = some (.int .i64 0) := obj_cell hox1 rfl
        have q1 : w1.cell? ⟨w.heap.size + 1, 1, none⟩ = some (.int .i64 0) := obj_cell hox1 rfl
        have z := obj_free hox1
        have hbu : Below w.heap.size w w1 := hB0.out.trans ((hT1.out.blw.trans (hb1.out.mono hws)).mono (by omega))
        replace hox1 := Lib.hid hox1
        replace hbu := Lib.hid hbu
        replace hNf := Lib.hid hNf
        go_wp2_with fail
        refine bodyPost_ret (v := .agg #[.int .i64 0, .int .i64 3]) ?_ rfl ⟨by rw [hNf.out], ?_⟩
        · simp [results, Try.results68, go_sem, q0, q1]
        · exact (hbu.out.setCell (Nat.le_succ _) _).setCell (Nat.le_succ _) _
    · obtain rfl : k = len := by omega
      have hkz : ¬ (k : Int) < (k : Int) := by omega
      have hNf : N = chainL 0 (worths cs f k 0) := by rw [← hN.out]; exact net_chain cs f k 0 0 fun i hi => by rw [Nat.zero_add]; exact hT1.all i hi
      have hseq : Seq64 wr q k (worths cs f k 0) := ownI_seq hT1.own (worths_len cs f k 0) (fun x hx => by
        obtain ⟨i, hi, e⟩ := worths_mem hx
        rw [Nat.zero_add] at e
        rw [e]; exact hT1.all i hi) (by omega)
      have hC := Lib.hid (together_any q k c (worths cs f k 0) wr hseq)
      replace hT1 := Lib.hid hT1
      replace hox := Lib.hid hox
      replace hseq := Lib.hid hseq
      replace hNf := Lib.hid hNf
      go_wp2_with (first | (go_at_call 84; (with_reducible refine hC.out.mono ?_); rintro e w1 ⟨rfl, hb1⟩; have hox1 := (hb1.block _ (obj_lt hox.out)).trans hox.out; have q0 : w1.cell? ⟨w.heap.size + 1, 0, none⟩ = some (.int .i64 0) := obj_cell hox1 rfl; have q1 : w1.cell? ⟨w.heap.size + 1, 1, none⟩ = some (.int .i64 0) := obj_cell hox1 rfl; have z := obj_free hox1; replace hb1 := Lib.hid hb1; replace hox1 := Lib.hid hox1))
      refine bodyPost_ret (v := .agg #[.int .i64 (chainL 0 (worths cs f k 0)).1, .int .i64 (chainL 0 (worths cs f k 0)).2]) ?_ rfl ⟨by rw [hNf.out], ?_⟩
      · simp [results, Try.results68, go_sem, q0, q1]
      · exact ((hB0.out.trans ((hT1.out.blw.trans (hb1.out.mono hws)).mono (by omega))).setCell (Nat.le_succ _) _).setCell (Nat.le_succ _) _
end Go.Proofs.Ytllhpdohahoelaa
