/- The contract of the reference's Fit.
  The contracts of the reference's Total and Chain. -/
import Derived.Test.YthocnlalahknjaaGreatQR5
import Derived.Test.YthocnlalahknjaaGreatB2
namespace Go.Proofs.YthocnlalahknjaaGreat
open Go.RowKit
set_option linter.unusedVariables false

/-- an exact number as an amount and an error's number -/
def fitRV (x : Int) : Int := if -9223372036854775808 ≤ x ∧ x ≤ 9223372036854775807 then x else 0
def fitRE (x : Int) : Int := if -9223372036854775808 ≤ x ∧ x ≤ 9223372036854775807 then 0 else 3

/-- behind a call's beginning: its one Big lies in the first block of its own -/
structure Hold1 (w W : World) (n : Bool) (p : Option Addr) (l c : Nat) : Prop where
  c0 : W.cell? ⟨w.heap.size, 0, none⟩ = some (.bool n)
  c1 : W.cell? ⟨w.heap.size, 1, none⟩ = some (.slice p l c)
  size : w.heap.size < W.heap.size
  bel : Below w.heap.size w W
theorem Hold1.kept {w W W' : World} {n : Bool} {p : Option Addr} {l c : Nat} (h : Hold1 w W n p l c) (hb : Below W.heap.size W W') : Hold1 w W' n p l c :=
  ⟨(hb.cell (p := ⟨w.heap.size, 0, none⟩) h.size).trans h.c0, (hb.cell (p := ⟨w.heap.size, 1, none⟩) h.size).trans h.c1, Nat.lt_of_lt_of_le h.size hb.size, h.bel.trans (hb.mono h.bel.size)⟩
theorem Hold1.drew {w W : World} {n : Bool} {p : Option Addr} {l c : Nat} (h : Hold1 w W n p l c) : Hold1 w W.drew n p l c := ⟨h.c0, h.c1, h.size, h.bel.drew⟩
theorem Hold1.made (w : World) (n : Bool) (p : Option Addr) (l c : Nat) : Hold1 w (w.alloc (Obj.cells #[Value.bool n, Value.slice p l c] 79)) n p l c :=
  ⟨by go_simp, by go_simp, by simp, (Below.refl _ _).alloc (Nat.le_refl _) _⟩
theorem IsB.wide {w : World} {v : Value} {L L' : Nat} {N : Int} (h : IsB w v L N) (hL : L ≤ L') : IsB w v L' N := by
  obtain ⟨neg, p, len, cap, ds, h1, h2, h3, h4, h5, h6⟩ := h
  exact ⟨neg, p, len, cap, ds, h1, h2, h3, h4, Nat.le_trans h5 hL, h6⟩

set_option maxRecDepth 100000 in
set_option maxHeartbeats 4000000 in
theorem fit_low (v : Value) (L : Nat) (N : Int) (w : World) (h : IsB w v L N) (h5 : 5 ≤ L) (hL : L ≤ 100000) (hN : N < -9223372036854775808) :
    Calls Tryz.prog 31 #[v] w fun e w' => e = .returned (.tuple #[.int .i64 0, .int .i64 3]) ∧ Below w.heap.size w w' := by
  have h0 := Lib.hid h
  obtain ⟨n, p, l, c, ds, rfl, _⟩ := h
  have hH := Lib.hid (Hold1.made w n p l c)
  have k0 := hH.out.c0
  have k1 := hH.out.c1
  have hc1 : Hid (cmp3 N (-9223372036854775808) = -1) := by
    show _ = _
    unfold cmp3; rw [if_neg (by omega), if_pos (by omega)]
  clear hN
  go_enter Tryz.func31, Tryz.ntmps31
  go_upto_region 1 with (fail)
  go_cut [15] (fun s wc => s = .bool true ∧ Below w.heap.size w wc)
  case first =>
    go_region_with (first
      | (go_at_call 30; (with_reducible refine (of_any (-9223372036854775808) _ ?_ ?_).mono ?_); decide; decide; rintro e w1 ⟨v1, rfl, hv1, hb1⟩; have hH1 := hH.out.drew.kept hb1; have u0 := hH1.c0; have u1 := hH1.c1; replace hH1 := Lib.hid hH1; replace hv1 := Lib.hid hv1; clear hb1)
      | (go_at_call 59; (with_reducible refine (cmp_any _ _ L N (-9223372036854775808) _ ?_ ?_ ?_).mono ?_); exact (h0.out.kept hH1.out.bel); exact (hv1.out.wide h5); exact hL; rintro e w2 ⟨rfl, hb2⟩; rw [hc1.out]; have hH2 := hH1.out.kept hb2; replace hH2 := Lib.hid hH2; clear hb2))
    all_goals
      go_wp2_with fail
      go_meet
      exact ⟨rfl, hH2.out.bel⟩
  case rest =>
    obtain ⟨rfl, hB⟩ := hcut
    clear k0 k1
    replace hB := Lib.hid hB
    go_wp2_with fail
    go_ret2
    exact ⟨rfl, hB.out⟩

/-- a number, its upper digits told -/
theorem upper_next {f : Nat → Int} {k : Nat} {V h : Int} (e : V = dv f (k + 1) + h * pw (k + 1)) : V = dv f k + (10000 * h + f k) * pw k := by
  rw [e, dv, pw_succ, Int.add_mul]
  rw [show h * (10000 * pw k) = 10000 * h * pw k from by rw [Int.mul_left_comm, Int.mul_assoc]]
  omega
theorem upper_le {f : Nat → Int} (hf : Digs f) {k : Nat} {V h : Int} (e : V = dv f k + h * pw k) (h0 : 0 ≤ h) : h ≤ V := by
  have a := (dv_bd hf k).1
  have b : h * 1 ≤ h * pw k := Int.mul_le_mul_of_nonneg_left (pw_pos k) h0
  omega

set_option maxRecDepth 100000 in
set_option maxHeartbeats 4000000 in
theorem fit_test (v : Value) (L : Nat) (N m1 m2 : Int) (b : Bool) (w : World) (h : IsB w v L N) (h5 : 5 ≤ L) (hL : L ≤ 100000) (hlow : -9223372036854775808 ≤ N) (hc1 : Hid (cmp3 N (-9223372036854775808) = m1)) (hm1 : decide (m1 < 0) = false) (hc2 : Hid (cmp3 N 9223372036854775807 = m2)) (hm2 : decide (0 < m2) = b)
    (hb : Hid (b = decide (9223372036854775807 < N))) :
    Calls Tryz.prog 31 #[v] w fun e w' => e = .returned (.tuple #[.int .i64 (fitRV N), .int .i64 (fitRE N)]) ∧ Below w.heap.size w w' := by
  have h0 := Lib.hid h
  obtain ⟨n, p, l, c, ds, rfl, hrow, hlc, hpc, hlen, hN, hz⟩ := h
  have hH := Lib.hid (Hold1.made w n p l c)
  have k0 := hH.out.c0
  have k1 := hH.out.c1
  replace hrow := Lib.hid hrow
  replace hN := Lib.hid hN
  clear hpc hz
  go_enter Tryz.func31, Tryz.ntmps31
  go_upto_region 1 with (fail)
  go_cut [15] (fun s wc => s = .bool b ∧ Hold1 w wc n p l c)
  case first =>
    go_region_with (first
      | (go_at_call 30; (with_reducible refine (of_any (-9223372036854775808) _ ?_ ?_).mono ?_); decide; decide; rintro e w1 ⟨v1, rfl, hv1, hb1⟩; have hH1 := hH.out.drew.kept hb1; have u0 := hH1.c0; have u1 := hH1.c1; replace hH1 := Lib.hid hH1; replace hv1 := Lib.hid hv1; clear hb1)
      | (go_at_call 30; (with_reducible refine (of_any 9223372036854775807 _ ?_ ?_).mono ?_); decide; decide; rintro e w3 ⟨v3, rfl, hv3, hb3⟩; have hH3 := hH2.out.kept hb3; have u4 := hH3.c0; have u5 := hH3.c1; replace hH3 := Lib.hid hH3; replace hv3 := Lib.hid hv3; clear hb3)
      | (go_at_call 59; (with_reducible refine (cmp_any _ _ L N 9223372036854775807 _ ?_ ?_ ?_).mono ?_); exact (h0.out.kept hH3.out.bel); exact (hv3.out.wide h5); exact hL; rintro e w4 ⟨rfl, hb4⟩; rw [hc2.out]; have hH4 := hH3.out.kept hb4; replace hH4 := Lib.hid hH4; clear hb4)
      | (go_at_call 59; (with_reducible refine (cmp_any _ _ L N (-9223372036854775808) _ ?_ ?_ ?_).mono ?_); exact (h0.out.kept hH1.out.bel); exact (hv1.out.wide h5); exact hL; rintro e w2 ⟨rfl, hb2⟩; rw [hc1.out]; have hH2 := hH1.out.kept hb2; have u2 := hH2.c0; have u3 := hH2.c1; replace hH2 := Lib.hid hH2; clear hb2))
    all_goals
      go_wp2_with fail
      go_meet
      exact ⟨rfl, hH4.out⟩
  case rest =>
    obtain ⟨rfl, hB⟩ := hcut
    clear k0 k1 hm1 hm2 hc1 hc2
    have k0 := hB.c0
    have k1 := hB.c1
    have hdg := Lib.hid hrow.out.2.1
    have hlen' := Lib.hid hrow.out.1
    have hrow' := Lib.hid (hrow.out.kept hB.bel)
    replace hB := Lib.hid hB
    have hcells := Lib.hid hrow'.out.2.2
    cases b
    · have hhigh : N ≤ 9223372036854775807 := by have := hb.out; simp at this; omega
      have hfin : N = fitRV N ∧ 0 = fitRE N := by unfold fitRV fitRE; rw [if_pos ⟨hlow, hhigh⟩, if_pos ⟨hlow, hhigh⟩]; exact ⟨rfl, rfl⟩
      replace hfin := Lib.hid hfin
      go_upto_block 0 with (fail)
      go_wp2_with fail
      go_loopw [4, 5] (fun t i wr => ∃ (k : Nat) (h : Int), k ≤ l ∧ i = .int .i64 ((k : Int) - 1) ∧ t = .int .i64 (sgB n h) ∧ 0 ≤ h ∧ val ds = dv (dg ds) k + h * pw k ∧ wr = wc) (fun _ i _ => (intOf i + 1).toNat)
      case atStart => exact ⟨l, 0, Nat.le_refl _, rfl, by cases n <;> rfl, by omega, by rw [Int.zero_mul, Int.add_zero, ← hlen'.out]; rfl, rfl⟩
      case round =>
        obtain ⟨k, h, hk, rfl, rfl, hh0, he, rfl⟩ := hrel
        have hle := upper_le hdg.out he hh0
        cases k with
        | zero =>
          have hN' : sgB n h = N := by
            rw [← hN.out, he]
            simp [dv, pw]
          replace hN' := Lib.hid hN'
          clear he
          go_wp2_with fail
          rw [hN'.out]
          go_ret2
          exact ⟨by rw [← hfin.out.1, ← hfin.out.2]; rfl, hB.out.bel⟩
        | succ j =>
          have ej : ((j + 1 : Nat) : Int) - 1 = (j : Int) := by omega
          rw [ej]
          clear ej
          obtain ⟨b, off, rfl, hblt3, hc⟩ := hcells.out.resolve_left (by omega)
          have hblt := hblt3.lt
          clear hblt3
          have h1 := hc j (by omega)
          have hd := hdg.out j
          have he' := upper_next he
          have hle' := upper_le hdg.out he' (by omega)
          have hNv := hN.out
          clear hc he
          replace he' := Lib.hid he'
          generalize dg ds j = d at *
          generalize val ds = V at *
          clear hle
          cases n
          · have hNv' : V = N := hNv
            clear hNv
            rw [show sgB false h = h from rfl]
            go_wp2_with fail
            exact ⟨⟨j, 10000 * h + d, by omega, rfl, rfl, by omega, he'.out, trivial⟩, by simp [intOf]⟩
          · have hNv' : -V = N := hNv
            clear hNv
            rw [show sgB true h = -h from rfl]
            go_wp2_with fail
            refine ⟨⟨j, 10000 * h + d, by omega, rfl, ?_, by omega, he'.out, trivial⟩, by simp [intOf]⟩
            congr 1
            unfold sgB
            simp
            omega
    · have hhigh : 9223372036854775807 < N := by have := hb.out; simp at this; omega
      have hfin : 0 = fitRV N ∧ 3 = fitRE N := by unfold fitRV fitRE; rw [if_neg (by omega), if_neg (by omega)]; exact ⟨rfl, rfl⟩
      replace hfin := Lib.hid hfin
      go_wp2_with fail
      go_ret2
      exact ⟨by rw [← hfin.out.1, ← hfin.out.2]; rfl, hB.out.bel⟩
end Go.Proofs.YthocnlalahknjaaGreat
namespace Go.Proofs.YthocnlalahknjaaGreat
open Go.RowKit
set_option linter.unusedVariables false

theorem fit_any (v : Value) (L : Nat) (N : Int) (w : World) (h : IsB w v L N) (hL : L ≤ 90000) :
    Calls Tryz.prog 31 #[v] w fun e w' => e = .returned (.tuple #[.int .i64 (fitRV N), .int .i64 (fitRE N)]) ∧ Below w.heap.size w w' := by
  by_cases hlow : N < -9223372036854775808
  · refine (fit_low v (L + 5) N w (h.wide (by omega)) (by omega) (by omega) hlow).mono fun e w' ⟨he, hb⟩ => ⟨?_, hb⟩
    rw [he]
    unfold fitRV fitRE
    rw [if_neg (by omega), if_neg (by omega)]
  · refine fit_test v (L + 5) N _ _ _ w (h.wide (by omega)) (by omega) (by omega) (by omega) rfl ?_ rfl rfl ?_
    · unfold cmp3
      split
      · rfl
      · first | rfl | (rw [if_neg hlow]; rfl)
    · show decide _ = decide _
      unfold cmp3
      by_cases hh : 9223372036854775807 < N
      · rw [if_pos hh]; simp [hh]
      · rw [if_neg hh]
        split <;> simp <;> omega

theorem Seq64.at {w W : World} {p : Option Addr} {len : Nat} {zs : List Int} (h : Seq64 w p len zs) (hb : Below w.heap.size w W) {k : Nat} (hk : k < len) :
    ∃ b off, p = some ⟨b, off, none⟩ ∧ b < w.heap.size ∧ W.cell? ⟨b, off + k, none⟩ = some (.int .i64 (zs.getD k 0)) := by
  obtain ⟨_, _, _, h4⟩ := h
  obtain ⟨b, off, e, hlt, hc⟩ := h4.resolve_left (by omega)
  exact ⟨b, off, e, hlt, (hb.cell (p := ⟨b, off + k, none⟩) hlt).trans (hc k hk)⟩

/-- a Big that is kept in block b, with the result's in block r -/
structure Acc (W : World) (b r : Nat) (L : Nat) (N : Int) (n : Bool) (p : Option Addr) (l c : Nat) : Prop where
  c0 : W.cell? ⟨b, 0, none⟩ = some (.bool n)
  c1 : W.cell? ⟨b, 1, none⟩ = some (.slice p l c)
  f0 : W.frozen? ⟨b, 0, none⟩ = false
  f1 : W.frozen? ⟨b, 1, none⟩ = false
  box : Box W b
  res : Box W r
  isB : IsB W (.agg #[.bool n, .slice p l c]) L N
  lt : r < b
theorem Acc.kept {W W' : World} {b r L : Nat} {N : Int} {n : Bool} {p : Option Addr} {l c : Nat} (h : Acc W b r L N n p l c) (hb : Below W.heap.size W W') : Acc W' b r L N n p l c :=
  ⟨(hb.cell (p := ⟨b, 0, none⟩) h.box.lt).trans h.c0, (hb.cell (p := ⟨b, 1, none⟩) h.box.lt).trans h.c1, (hb.frozen (p := ⟨b, 0, none⟩) h.box.lt).trans h.f0, (hb.frozen (p := ⟨b, 1, none⟩) h.box.lt).trans h.f1, h.box.stays hb, h.res.stays hb, h.isB.kept hb, h.lt⟩
theorem Acc.drew {W : World} {b r L : Nat} {N : Int} {n : Bool} {p : Option Addr} {l c : Nat} (h : Acc W b r L N n p l c) : Acc W.drew b r L N n p l c := ⟨h.c0, h.c1, h.f0, h.f1, h.box, h.res, h.isB, h.lt⟩
theorem Box.set {w : World} {B : Nat} (h : Box w B) (x : Bool) (q : Option Addr) (l c : Nat) : Box ((w.setCell ⟨B, 0, none⟩ (.bool x)).setCell ⟨B, 1, none⟩ (.slice q l c)) B := by
  obtain ⟨x', q', l', c', e⟩ := h
  refine ⟨x, q, l, c, ?_⟩
  simp [World.setCell, Array.getElem?_modify, e]
theorem Box.other {w : World} {B : Nat} (h : Box w B) {a : Addr} (hne : B ≠ a.block) (u : Value) : Box (w.setCell a u) B := by
  obtain ⟨x', q', l', c', e⟩ := h
  exact ⟨x', q', l', c', (Below.heap_setCell w a u B hne).trans e⟩
theorem IsB.store {w : World} {B : Nat} {v : Value} {L : Nat} {N : Int} (h : IsB w v L N) (hb : Box w B) (u u' : Value) : IsB ((w.setCell ⟨B, 0, none⟩ u).setCell ⟨B, 1, none⟩ u') v L N := by
  obtain ⟨neg, p, len, cap, ds, h1, h2, h3⟩ := h
  exact ⟨neg, p, len, cap, ds, h1, hb.stored h2 u u', h3⟩
theorem Acc.put {W : World} {b r : Nat} {L : Nat} {N : Int} {n : Bool} {p : Option Addr} {l c : Nat} (hb : Box W b) (hr : Box W r) (hlt : r < b) (h : IsB W (.agg #[.bool n, .slice p l c]) L N) :
    Acc ((W.setCell ⟨b, 0, none⟩ (.bool n)).setCell ⟨b, 1, none⟩ (.slice p l c)) b r L N n p l c := by
  have hb' := hb.set n p l c
  obtain ⟨x, q, l', c', e0, e1, e2, e3⟩ := hb'.cells
  obtain ⟨y0, y1, y2, y3, y4, y5, y6, y7⟩ := hb.cells
  clear e0 e1
  exact ⟨by go_simp, by go_simp, e2, e3, hb', (hr.other (by simp; omega) _).other (by simp; omega) _, h.store hb _ _, hlt⟩

set_option maxRecDepth 100000 in
set_option maxHeartbeats 4000000 in
theorem total_any (p : Option Addr) (len cap : Nat) (zs : List Int) (w : World) (hs : Seq64 w p len zs) (hl : len ≤ 1000) :
    Calls Tryz.prog 93 #[.slice p len cap] w (RetB w (5 + len) (sumL zs)) := by
  have hzl := Lib.hid hs.1
  have hza := Lib.hid hs.2.1
  replace hs := Lib.hid hs
  go_enter Tryz.func93, Tryz.ntmps93
  go_wp2_with fail
  go_loopw [4] (fun i wr => ∃ (k : Nat) (n : Bool) (q : Option Addr) (l c : Nat), k ≤ len ∧ i = .int .i64 k ∧ Acc wr (w.heap.size + 1) w.heap.size (5 + k) (sumL (zs.take k)) n q l c ∧ Below w.heap.size w wr)
    (fun i _ => len - (intOf i).toNat)
  case atStart =>
    have hr := Box.made w false none 0 0
    have hb := Box.made (w.alloc (Obj.cells #[Value.bool false, Value.slice none 0 0] 79)) false none 0 0
    simp at hb
    exact ⟨0, false, none, 0, 0, by omega, rfl, ⟨by go_simp, by go_simp, by go_simp, by go_simp, hb, hr.stays ((Below.refl _ _).alloc (Nat.le_refl _) _), ⟨false, none, 0, 0, [], rfl, DRow.nil _ _, Nat.le_refl _, fun _ => rfl, by omega, rfl, fun _ => rfl, by omega⟩, by omega⟩, ((Below.refl _ _).alloc (Nat.le_refl _) _).alloc (by simp) _⟩
  case round =>
    obtain ⟨k, n, q, l, c, hk, rfl, hA, hB⟩ := hrel
    by_cases hlt : k < len
    · obtain ⟨b, off, rfl, hblt, hcell⟩ := hs.out.at hB hlt
      obtain ⟨z0, z1⟩ := hza.out k
      have hsum := sum_take zs k (by rw [hzl.out]; exact hlt)
      generalize hz : zs.getD k 0 = z at *
      replace hz := Lib.hid hz
      generalize hS : sumL (zs.take k) = S at *
      replace hS := Lib.hid hS
      replace hsum := Lib.hid hsum
      have t0 := hA.c0
      have t1 := hA.c1
      have r0 := hA.f0
      have r1 := hA.f1
      replace hA := Lib.hid hA
      replace hB := Lib.hid hB
      have hki : (k : Int) < (len : Int) := by omega
      have hk0 : (0 : Int) ≤ (k : Int) := by omega
      go_upto_region 5 with (fail)
      go_region_with (first
        | (go_at_call 30; (with_reducible refine (of_any z _ z0 z1).mono ?_); rintro e w1 ⟨v1, rfl, hv1, hb1⟩; have hA1 := hA.out.drew.kept hb1; have u0 := hA1.c0; have u1 := hA1.c1; have hB1 := Lib.hid (hB.out.drew.trans (hb1.mono hB.out.size)); replace hA1 := Lib.hid hA1; replace hv1 := Lib.hid hv1; clear hb1)
        | (go_at_call 29; (with_reducible refine (addB_any _ _ (5 + k) S z _ ?_ ?_ ?_).mono ?_); exact hA1.out.isB; exact (hv1.out.wide (Nat.le_add_right 5 k)); omega; rintro e w2 ⟨v2, rfl, hv2, hb2⟩; obtain ⟨n2, q2, l2, c2, d2, rfl, hv3⟩ := hv2; have hA2 := hA1.out.kept hb2; have u2 := hA2.c0; have u3 := hA2.c1; have u4 := hA2.f0; have u5 := hA2.f1
           have hB2 := Lib.hid (hB1.out.trans (hb2.mono hB1.out.size)); replace hA2 := Lib.hid hA2; have hv4 : Hid (IsB w2 (.agg #[.bool n2, .slice q2 l2 c2]) (5 + k + 1) (S + z)) := ⟨n2, q2, l2, c2, d2, rfl, hv3⟩; clear hv3 hb2))
      all_goals
        clear t0 t1 r0 r1 u0 u1 u2 u3 u4 u5 hcell
        go_wp2_with fail
        go_roundw
        case rel =>
          refine ⟨k + 1, n2, q2, l2, c2, by omega, by go_num, ?_, (hB2.out.setCell (by simp) _).setCell (by simp) _⟩
          rw [hsum.out]
          exact Acc.put hA2.out.box hA2.out.res hA2.out.lt hv4.out
        case measure => simp [intOf]; omega
    · have hkl : zs.take k = zs := List.take_of_length_le (by rw [hzl.out]; omega)
      rw [hkl] at hA
      obtain ⟨x0, x1, x2, x3, y0, y1, y2, y3⟩ := hA.res.cells
      have t0 := hA.c0
      have t1 := hA.c1
      replace hA := Lib.hid hA
      replace hB := Lib.hid hB
      clear hkl
      go_wp2_with fail
      refine bodyPost_ret (v := .agg #[.bool n, .slice q l c]) (by simp [results, Tryz.results93, go_sem, y0, y1]) rfl ⟨_, rfl, (hA.out.isB.store hA.out.res _ _).wide (by omega), (hB.out.setCell (by simp) _).setCell (by simp) _⟩
end Go.Proofs.YthocnlalahknjaaGreat
