/- The contracts of the reference's Plain, Change and Worth.
  The contract of the reference's Worth. -/
import Derived.Test.YtllhpdohahoelaaMoneyParts
import Derived.Test.YtllhpdohahoelaaQ3
import Derived.Test.YtllhpdohahoelaaP7
import Derived.Deep.DeepCutAuto
import Derived.Deep.DrawnRows
namespace Go.Proofs.Ytllhpdohahoelaa
open Go.RowKit
set_option linter.unusedVariables false

set_option maxHeartbeats 1000000 in
theorem plainR_no (p : Option Addr) (len cap : Nat) (cur a : Int) (w : World) (h : ¬ (0 ≤ cur ∧ cur < len)) :
    Calls Try.prog 47 #[.slice p len cap, .int .i64 cur, .int .i64 a] w fun e w' => e = .returned (.tuple #[.int .i64 0, .int .i64 1]) ∧ w = w' := by
  by_cases h0 : cur < 0
  · have z0 : decide (cur < 0) = true := by simpa using h0
    clear h
    go_enter Try.func47, Try.ntmps47
    go_wp2_with fail
    go_ret2
    exact ⟨rfl, rfl⟩
  · have z0 : decide (cur < 0) = false := by simpa using h0
    have z1 : decide ((len : Int) ≤ cur) = true := by simp; omega
    clear h
    go_enter Try.func47, Try.ntmps47
    go_wp2_with fail
    go_ret2
    exact ⟨rfl, rfl⟩
set_option maxHeartbeats 1000000 in
theorem worthR_no (p : Option Addr) (len cap : Nat) (cur a : Int) (w : World) (h : ¬ (0 ≤ cur ∧ cur < len)) :
    Calls Try.prog 45 #[.slice p len cap, .int .i64 cur, .int .i64 a] w fun e w' => e = .returned (.tuple #[.int .i64 0, .int .i64 1]) ∧ w = w' := by
  by_cases h0 : cur < 0
  · have z0 : decide (cur < 0) = true := by simpa using h0
    clear h
    go_enter Try.func45, Try.ntmps45
    go_wp2_with fail
    go_ret2
    exact ⟨rfl, rfl⟩
  · have z0 : decide (cur < 0) = false := by simpa using h0
    have z1 : decide ((len : Int) ≤ cur) = true := by simp; omega
    clear h
    go_enter Try.func45, Try.ntmps45
    go_wp2_with fail
    go_ret2
    exact ⟨rfl, rfl⟩
set_option maxHeartbeats 1000000 in
set_option maxRecDepth 100000 in
theorem plainR_any (p : Option Addr) (len cap : Nat) (cs : List Cur) (k : Nat) (a : Int) (w : World) (hs : Tab w p len cs) (hk : k < len) (ha : Amt a) (ho : oobB (cAt cs k) = false) :
    Calls Try.prog 47 #[.slice p len cap, .int .i64 k, .int .i64 a] w fun e w' => e = .returned (.tuple #[.int .i64 (fitV (plainT (cAt cs k) a)), .int .i64 (fitE (plainT (cAt cs k) a))]) ∧ Below w.heap.size w w' := by
  obtain ⟨hl, hz, hm, hcells⟩ := hs
  obtain ⟨b, off, rfl, hblt, hc⟩ := hcells.resolve_left (by omega)
  obtain ⟨c0, c1, c2⟩ := hc k hk
  obtain ⟨r0, r1, u0, u1⟩ := oob_no ho
  have hfin : plainT (cAt cs k) a = muldiv a (cAt cs k).rate 10000 false := rfl
  rw [hfin]
  clear hfin hc hl hz hcells ho
  generalize (cAt cs k).rate = r at *
  generalize (cAt cs k).cut = h at *
  have hcon := fun w => mulDivR_any a r 10000 false w ha ⟨by omega, by omega⟩ (by omega) (by omega)
  replace hcon := Lib.hid hcon
  have z0 : decide ((k : Int) < 0) = false := by simp
  have z1 : decide ((len : Int) ≤ (k : Int)) = false := by simp; omega
  go_enter Try.func47, Try.ntmps47
  go_wp2_with fail
  refine (hcon.out _).mono ?_
  rintro e w1 ⟨rfl, hb1⟩
  rw [show fitRV (divR (a * r) 10000 false) = fitV (muldiv a r 10000 false) from rfl, show fitRE (divR (a * r) 10000 false) = fitE (muldiv a r 10000 false) from rfl]
  replace hb1 := Lib.hid hb1
  go_wp2_with fail
  go_ret2
  exact ⟨rfl, hb1.out⟩

end Go.Proofs.Ytllhpdohahoelaa
namespace Go.Proofs.Ytllhpdohahoelaa
open Go.RowKit
set_option linter.unusedVariables false
attribute [local go_sem ↓] Go.wp_at_zero Go.wp_at_succ

theorem IsB.laid {w : World} {v : Value} {L : Nat} {N : Int} (h : IsB w v L N) (o : Obj) : IsB (w.alloc o) v L N := h.kept ((Below.refl _ _).alloc (Nat.le_refl _) _)
/-- a Big's box that is new -/
def BoxN (wc W : World) (B : Nat) : Prop := Box W B ∧ wc.heap.size ≤ B
theorem BoxN.alive {wc W W' : World} {B : Nat} (h : BoxN wc W B) (hb : Below W.heap.size W W') : BoxN wc W' B :=
  ⟨h.1.kept hb (by obtain ⟨x, q, l, c, e⟩ := h.1; exact (Array.getElem?_eq_some_iff.1 e).1), h.2⟩
theorem BoxN.made {wc W W' : World} (hW : Below wc.heap.size wc W) (hb : Below (W.alloc (.cells #[.bool false, .slice none 0 0] 83)).heap.size (W.alloc (.cells #[.bool false, .slice none 0 0] 83)) W') : BoxN wc W' W.heap.size :=
  BoxN.alive ⟨Box.made W false none 0 0, hW.size⟩ hb
/-- a Big's box, behind the store of a number -/
def BoxOf (L : Nat) (N : Int) (w : World) (s : Value) (wc : World) : Prop :=
  ∃ (B : Nat) (n : Bool) (p : Option Addr) (l c : Nat), s = .pointer (some ⟨B, 0, none⟩) ∧ wc.cell? ⟨B, 0, none⟩ = some (.bool n) ∧ wc.cell? ⟨B, 1, none⟩ = some (.slice p l c) ∧ IsB wc (.agg #[.bool n, .slice p l c]) L N ∧ Below w.heap.size w wc

theorem boxOf_made {wc W : World} {n : Bool} {p : Option Addr} {l c L : Nat} {N : Int} (hW : Below wc.heap.size wc W) (hv : IsB W (.agg #[.bool n, .slice p l c]) L N) :
    BoxOf L N wc (.pointer (some ⟨W.heap.size, 0, none⟩)) (W.alloc (.cells #[.bool n, .slice p l c] 83)) := by
  have e := heap_alloc_new W (.cells #[.bool n, .slice p l c] 83)
  refine ⟨_, n, p, l, c, rfl, ?_, ?_, hv.laid _, hW.alloc hW.size _⟩
  · rw [cell_of_row _ _ 0 _ 83 (0, 0) e]; rfl
  · rw [cell_of_row _ _ 1 _ 83 (0, 0) e]; rfl
theorem boxOf_set {wc W : World} {B : Nat} {n : Bool} {p : Option Addr} {l c L : Nat} {N : Int} (hx : BoxN wc W B) (hW : Below wc.heap.size wc W) (hv : IsB W (.agg #[.bool n, .slice p l c]) L N) :
    BoxOf L N wc (.pointer (some ⟨B, 0, none⟩)) ((W.setCell ⟨B, 0, none⟩ (.bool n)).setCell ⟨B, 1, none⟩ (.slice p l c)) := by
  obtain ⟨x, q, l', c', h⟩ := hx.1
  have e : ((W.setCell ⟨B, 0, none⟩ (.bool n)).setCell ⟨B, 1, none⟩ (.slice p l c)).heap[B]? = some (.cells #[.bool n, .slice p l c] 83 (0, 0)) := by
    simp [World.setCell, Array.getElem?_modify, h]
  refine ⟨_, n, p, l, c, rfl, ?_, ?_, hv.store hx.1 _ _, (hW.setCell hx.2 _).setCell hx.2 _⟩
  · rw [cell_of_row _ _ 0 _ 83 (0, 0) e]; rfl
  · rw [cell_of_row _ _ 1 _ 83 (0, 0) e]; rfl

set_option maxHeartbeats 4000000 in
set_option maxRecDepth 100000 in
theorem worthR_any (p : Option Addr) (len cap : Nat) (cs : List Cur) (k : Nat) (a : Int) (w : World) (hs : Tab w p len cs) (hk : k < len) (ha : Amt a) (ho : oobB (cAt cs k) = false) :
    Calls Try.prog 45 #[.slice p len cap, .int .i64 k, .int .i64 a] w fun e w' => e = .returned (.tuple #[.int .i64 (fitV (worthT (cAt cs k) a)), .int .i64 (fitE (worthT (cAt cs k) a))]) ∧ Below w.heap.size w w' := by
  obtain ⟨hl, hz, hm, hcells⟩ := hs
  obtain ⟨b, off, rfl, hblt, hc⟩ := hcells.resolve_left (by omega)
  obtain ⟨c0, c1, c2⟩ := hc k hk
  obtain ⟨r0, r1, u0, u1⟩ := oob_no ho
  obtain ⟨a0, a1⟩ := ha
  have hfin : worthT (cAt cs k) a = muldiv a ((cAt cs k).rate * partOf (cAt cs k) a) 100000000 false := rfl
  have hp1 : a < 0 → partOf (cAt cs k) a = 10000 + (cAt cs k).cut := fun h => by unfold partOf; rw [if_pos h]
  have hp2 : ¬ a < 0 → partOf (cAt cs k) a = 10000 - (cAt cs k).cut := fun h => by unfold partOf; rw [if_neg h]
  rw [hfin]
  clear hfin hc hl hz hcells ho
  generalize (cAt cs k).rate = r at *
  generalize partOf (cAt cs k) a = q at *
  generalize (cAt cs k).cut = h at *
  have hq0 : 0 ≤ q := by by_cases t : a < 0; rw [hp1 t]; omega; rw [hp2 t]; omega
  have hq1 : q ≤ 20000 := by by_cases t : a < 0; rw [hp1 t]; omega; rw [hp2 t]; omega
  rw [← show fitRV (divR (a * (r * q)) 100000000 false) = fitV (muldiv a (r * q) 100000000 false) from rfl, ← show fitRE (divR (a * (r * q)) 100000000 false) = fitE (muldiv a (r * q) 100000000 false) from rfl, ← Int.mul_assoc]
  replace hp1 := Lib.hid hp1
  replace hp2 := Lib.hid hp2
  have z0 : decide ((k : Int) < 0) = false := by simp
  have z1 : decide ((len : Int) ≤ (k : Int)) = false := by simp; omega
  have y0 : (0 : Int) ≤ (k : Int) := by omega
  have y1 : (k : Int) < (len : Int) := by omega
  go_enter Try.func45, Try.ntmps45
  go_upto_if 25 with (fail)
  go_cut [8] (fun s wc => s = .int .i64 q ∧ wc = w)
  case first =>
    by_cases hn : a < 0
    · have e := hp1.out hn
      subst e
      go_wp2_with fail
      go_meet
      exact ⟨rfl, rfl⟩
    · have e := hp2.out hn
      subst e
      go_wp2_with fail
      go_meet
      exact ⟨rfl, rfl⟩
  case rest =>
    obtain ⟨rfl, rfl⟩ := hcut
    clear hp1 hp2 c2 c0
    have rA : -9223372036854775808 ≤ r := by omega
    have rB : r ≤ 9223372036854775807 := by omega
    have qA : -9223372036854775808 ≤ q := by omega
    have qB : q ≤ 9223372036854775807 := by omega
    have hWD : Hid (Below wc.heap.size wc wc.drew) := (Below.refl _ _).drew
    have hxD : Hid (BoxN wc (wc.alloc (.cells #[.bool false, .slice none 0 0] 83)).drew wc.heap.size) := ⟨Box.made wc false none 0 0, Nat.le_refl _⟩
    go_upto_region 6 with (fail)
    go_cut [9] (fun s wc' => BoxOf 17 (a * r * q) wc s wc')
    case first =>
      go_region_with (first
        | (go_at_call 38; (with_reducible refine (of_any a _ a0 a1).mono ?_); rintro e wA ⟨vA, rfl, hvA, hbA⟩
           have hWA : Hid (Below wc.heap.size wc wA) := by first | exact chain_trans hWD.out hbA | exact chain_trans (hWD.out.alloc hWD.out.size _) hbA
           first | (have hxA : Hid (BoxN wc wA wc.heap.size) := hxD.out.alive hbA) | skip
           have c1A := (hWA.out.cell (p := ⟨b, off + k * 3 + 1, none⟩) hblt).trans c1
           have hsA := Nat.lt_of_lt_of_le hblt hWA.out.size
           replace hbA := Lib.hid hbA
           replace hvA := Lib.hid hvA)
        | (go_at_call 38; (with_reducible refine (of_any r _ rA rB).mono ?_); rintro e wB ⟨vB, rfl, hvB, hbB⟩
           have hWB : Hid (Below wc.heap.size wc wB) := by first | exact chain_trans hWA.out hbB | exact chain_trans (hWA.out.alloc hWA.out.size _) hbB
           have hvAB : Hid (IsB wB vA 5 a) := by first | exact hvA.out.kept hbB | exact (hvA.out.laid _).kept hbB
           first | (have hxB := Lib.hid (hxA.out.alive hbB)) | (have hxB := Lib.hid (BoxN.made hWA.out hbB)) | skip
           replace hbB := Lib.hid hbB
           replace hvB := Lib.hid hvB)
        | (go_at_call 70; (with_reducible refine (mulB_any vA vB 5 5 (a) (r) _ ?_ ?_ (by decide) (by decide)).mono ?_)
           · first | exact hvAB.out | exact hvAB.out.laid _
           · first | exact hvB.out | exact hvB.out.laid _
           rintro e wM ⟨vM, rfl, hvM, hbM⟩
           have hWM : Hid (Below wc.heap.size wc wM) := by first | exact chain_trans hWB.out hbM | exact chain_trans (hWB.out.alloc hWB.out.size _) hbM
           first | (have hxM := Lib.hid (hxB.out.alive hbM)) | (have hxM := Lib.hid (BoxN.made hWB.out hbM)) | skip
           replace hbM := Lib.hid hbM
           replace hvM := Lib.hid hvM)
        | (go_at_call 38; (with_reducible refine (of_any q _ qA qB).mono ?_); rintro e wC ⟨vC, rfl, hvC, hbC⟩
           have hWC : Hid (Below wc.heap.size wc wC) := by first | exact chain_trans hWM.out hbC | exact chain_trans (hWM.out.alloc hWM.out.size _) hbC
           have hvMC : Hid (IsB wC vM 11 (a * r)) := by first | exact hvM.out.kept hbC | exact (hvM.out.laid _).kept hbC
           first | (have hxC := Lib.hid (hxM.out.alive hbC)) | (have hxC := Lib.hid (BoxN.made hWM.out hbC)) | skip
           replace hbC := Lib.hid hbC
           replace hvC := Lib.hid hvC)
        | (go_at_call 70; (with_reducible refine (mulB_any vM vC 11 5 (a * r) (q) _ ?_ ?_ (by decide) (by decide)).mono ?_)
           · first | exact hvMC.out | exact hvMC.out.laid _
           · first | exact hvC.out | exact hvC.out.laid _
           rintro e wN ⟨vN, rfl, hvN, hbN⟩
           have hWN : Hid (Below wc.heap.size wc wN) := by first | exact chain_trans hWC.out hbN | exact chain_trans (hWC.out.alloc hWC.out.size _) hbN
           obtain ⟨nN, pN, lN, cN, dN, rfl, hvN'⟩ := hvN
           have hvN : Hid (IsB wN (.agg #[.bool nN, .slice pN lN cN]) 17 (a * r * q)) := ⟨nN, pN, lN, cN, dN, rfl, hvN'⟩
           clear hvN'
           first | (have hxN := hxC.out.alive hbN; obtain ⟨x, qx, lx, cx, y0, y1, y2, y3⟩ := hxN.1.cells; replace hxN := Lib.hid hxN) | (have hxN := BoxN.made hWC.out hbN; obtain ⟨x, qx, lx, cx, y0, y1, y2, y3⟩ := hxN.1.cells; replace hxN := Lib.hid hxN) | skip
           replace hbN := Lib.hid hbN))
      all_goals go_wp2_with fail
      all_goals go_meet
      all_goals first | exact boxOf_set hxN.out hWN.out hvN.out | exact boxOf_made hWN.out hvN.out
    case rest =>
      obtain ⟨B, n, p', l, c, rfl, e0, e1, hv, hb6⟩ := hcut
      have hBlt : B < wc.heap.size := World.block_lt_of_cell? wc _ e0
      have hWE : Hid (Below wc.heap.size wc wc.drew) := (Below.refl _ _).drew
      have hvE : Hid (IsB wc.drew (.agg #[.bool n, .slice p' l c]) 17 (a * r * q)) := hv.kept ((Below.refl _ _).drew)
      replace hb6 := Lib.hid hb6
      clear hv c1
      go_wp2_with fail
      go_region_held3 (fun w' => w'.cell? ⟨B, 0, none⟩ = some (.bool n) ∧ w'.cell? ⟨B, 1, none⟩ = some (.slice p' l c)) (first | go_keep | exact ⟨(hWP.out.cell (p := ⟨B, 0, none⟩) hBlt).trans e0, (hWP.out.cell (p := ⟨B, 1, none⟩) hBlt).trans e1⟩ | exact ⟨(hWQ.out.cell (p := ⟨B, 0, none⟩) hBlt).trans e0, (hWQ.out.cell (p := ⟨B, 1, none⟩) hBlt).trans e1⟩ | exact ⟨(hWF.out.cell (p := ⟨B, 0, none⟩) hBlt).trans e0, (hWF.out.cell (p := ⟨B, 1, none⟩) hBlt).trans e1⟩)
        ((first
        | (go_at_call 38; (with_reducible refine (of_any 100000000 _ (by decide) (by decide)).mono ?_); rintro e wP ⟨vP, rfl, hvP, hbP⟩
           have hWP : Hid (Below wc.heap.size wc wP) := chain_trans hWE.out hbP
           have hvEP : Hid (IsB wP (.agg #[.bool n, .slice p' l c]) 17 (a * r * q)) := hvE.out.kept hbP
           replace hbP := Lib.hid hbP
           replace hvP := Lib.hid hvP)
        | (go_at_call 71; (with_reducible refine (divB_any _ _ 17 5 (a * r * q) 100000000 false _ hvEP.out hvP.out (by decide) (by decide) (by decide)).mono ?_); rintro e wQ ⟨vQ, rfl, hvQ, hbQ⟩
           have hWQ : Hid (Below wc.heap.size wc wQ) := chain_trans hWP.out hbQ
           replace hbQ := Lib.hid hbQ
           replace hvQ := Lib.hid hvQ)
        | (go_at_call 36; (with_reducible refine (fit_any _ 23 (divR (a * r * q) 100000000 false) _ hvQ.out (by decide)).mono ?_); rintro e wF ⟨rfl, hbF⟩
           have hWF : Hid (Below wc.heap.size wc wF) := chain_trans hWQ.out hbF
           replace hbF := Lib.hid hbF)))
      go_wp2_with fail
      go_ret2
      exact ⟨rfl, chain_trans hb6.out hWF.out⟩
end Go.Proofs.Ytllhpdohahoelaa
