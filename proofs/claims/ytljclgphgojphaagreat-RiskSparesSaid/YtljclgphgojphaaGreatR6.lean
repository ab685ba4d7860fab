/- The contract of the reference's Fit. -/
import Derived.Test.YtljclgphgojphaaGreatR5
namespace Go.Proofs.YtljclgphgojphaaGreat
open Go.RowKit
set_option linter.unusedVariables false

/-- an exact number as an amount and an error's number -/
def fitRV (x : Int) : Int := if -9223372036854775808 ≤ x ∧ x ≤ 9223372036854775807 then x else 0
def fitRE (x : Int) : Int := if -9223372036854775808 ≤ x ∧ x ≤ 9223372036854775807 then 0 else 3

/-- behind a call's beginning: its one Big lies in the first block of its own -/
structure Hold1 (w W : World) (n : Bool) (p : Option Addr) (l c : Nat) : Prop where
  c0 : W.cell? ⟨w.heap.size, 0, none⟩ = some (.bool n)
  c1 : W.cell? ⟨w.heap.size, 1, none⟩ = some (.slice p l c)
  size : w.heap.size < W.heap.size
  bel : Below w.heap.size w W
theorem Hold1.kept {w W W' : World} {n : Bool} {p : Option Addr} {l c : Nat} (h : Hold1 w W n p l c) (hb : Below W.heap.size W W') : Hold1 w W' n p l c :=
  ⟨(hb.cell (p := ⟨w.heap.size, 0, none⟩) h.size).trans h.c0, (hb.cell (p := ⟨w.heap.size, 1, none⟩) h.size).trans h.c1, Nat.lt_of_lt_of_le h.size hb.size, h.bel.trans (hb.mono h.bel.size)⟩
theorem Hold1.drew {w W : World} {n : Bool} {p : Option Addr} {l c : Nat} (h : Hold1 w W n p l c) : Hold1 w W.drew n p l c := ⟨h.c0, h.c1, h.size, h.bel.drew⟩
theorem Hold1.made (w : World) (n : Bool) (p : Option Addr) (l c : Nat) : Hold1 w (w.alloc (Obj.cells #[Value.bool n, Value.slice p l c] 122)) n p l c :=
  ⟨by go_simp, by go_simp, by simp, (Below.refl _ _).alloc (Nat.le_refl _) _⟩
theorem IsB.wide {w : World} {v : Value} {L L' : Nat} {N : Int} (h : IsB w v L N) (hL : L ≤ L') : IsB w v L' N := by
  obtain ⟨neg, p, len, cap, ds, h1, h2, h3, h4, h5, h6⟩ := h
  exact ⟨neg, p, len, cap, ds, h1, h2, h3, h4, Nat.le_trans h5 hL, h6⟩

set_option maxRecDepth 100000 in
set_option maxHeartbeats 4000000 in
theorem fit_low (v : Value) (L : Nat) (N : Int) (w : World) (h : IsB w v L N) (h5 : 5 ≤ L) (hL : L ≤ 100000) (hN : N < -9223372036854775808) :
    Calls Tryz.prog 88 #[v] w fun e w' => e = .returned (.tuple #[.int .i64 0, .int .i64 3]) ∧ Below w.heap.size w w' := by
  have h0 := Lib.hid h
  obtain ⟨n, p, l, c, ds, rfl, _⟩ := h
  have hH := Lib.hid (Hold1.made w n p l c)
  have k0 := hH.out.c0
  have k1 := hH.out.c1
  have hc1 : Hid (cmp3 N (-9223372036854775808) = -1) := by
    show _ = _
    unfold cmp3; rw [if_neg (by omega), if_pos (by omega)]
  clear hN
  go_enter Tryz.func88, Tryz.ntmps88
  go_upto_region 1 with (fail)
  go_cut [15] (fun s wc => s = .bool true ∧ Below w.heap.size w wc)
  case first =>
    go_region_with (first
      | (go_at_call 90; (with_reducible refine (of_any (-9223372036854775808) _ ?_ ?_).mono ?_); decide; decide; rintro e w1 ⟨v1, rfl, hv1, hb1⟩; have hH1 := hH.out.drew.kept hb1; have u0 := hH1.c0; have u1 := hH1.c1; replace hH1 := Lib.hid hH1; replace hv1 := Lib.hid hv1; clear hb1)
      | (go_at_call 117; (with_reducible refine (cmp_any _ _ L N (-9223372036854775808) _ ?_ ?_ ?_).mono ?_); exact (h0.out.kept hH1.out.bel); exact (hv1.out.wide h5); exact hL; rintro e w2 ⟨rfl, hb2⟩; rw [hc1.out]; have hH2 := hH1.out.kept hb2; replace hH2 := Lib.hid hH2; clear hb2))
    all_goals
      go_wp2_with fail
      go_meet
      exact ⟨rfl, hH2.out.bel⟩
  case rest =>
    obtain ⟨rfl, hB⟩ := hcut
    clear k0 k1
    replace hB := Lib.hid hB
    go_wp2_with fail
    go_ret2
    exact ⟨rfl, hB.out⟩

/-- a number, its upper digits told -/
theorem upper_next {f : Nat → Int} {k : Nat} {V h : Int} (e : V = dv f (k + 1) + h * pw (k + 1)) : V = dv f k + (10000 * h + f k) * pw k := by
  rw [e, dv, pw_succ, Int.add_mul]
  rw [show h * (10000 * pw k) = 10000 * h * pw k from by rw [Int.mul_left_comm, Int.mul_assoc]]
  omega
theorem upper_le {f : Nat → Int} (hf : Digs f) {k : Nat} {V h : Int} (e : V = dv f k + h * pw k) (h0 : 0 ≤ h) : h ≤ V := by
  have a := (dv_bd hf k).1
  have b : h * 1 ≤ h * pw k := Int.mul_le_mul_of_nonneg_left (pw_pos k) h0
  omega

set_option maxRecDepth 100000 in
set_option maxHeartbeats 4000000 in
theorem fit_test (v : Value) (L : Nat) (N m1 m2 : Int) (b : Bool) (w : World) (h : IsB w v L N) (h5 : 5 ≤ L) (hL : L ≤ 100000) (hlow : -9223372036854775808 ≤ N) (hc1 : Hid (cmp3 N (-9223372036854775808) = m1)) (hm1 : decide (m1 < 0) = false) (hc2 : Hid (cmp3 N 9223372036854775807 = m2)) (hm2 : decide (0 < m2) = b)
    (hb : Hid (b = decide (9223372036854775807 < N))) :
    Calls Tryz.prog 88 #[v] w fun e w' => e = .returned (.tuple #[.int .i64 (fitRV N), .int .i64 (fitRE N)]) ∧ Below w.heap.size w w' := by
  have h0 := Lib.hid h
  obtain ⟨n, p, l, c, ds, rfl, hrow, hlc, hpc, hlen, hN, hz⟩ := h
  have hH := Lib.hid (Hold1.made w n p l c)
  have k0 := hH.out.c0
  have k1 := hH.out.c1
  replace hrow := Lib.hid hrow
  replace hN := Lib.hid hN
  clear hpc hz
  go_enter Tryz.func88, Tryz.ntmps88
  go_upto_region 1 with (fail)
  go_cut [15] (fun s wc => s = .bool b ∧ Hold1 w wc n p l c)
  case first =>
    go_region_with (first
      | (go_at_call 90; (with_reducible refine (of_any (-9223372036854775808) _ ?_ ?_).mono ?_); decide; decide; rintro e w1 ⟨v1, rfl, hv1, hb1⟩; have hH1 := hH.out.drew.kept hb1; have u0 := hH1.c0; have u1 := hH1.c1; replace hH1 := Lib.hid hH1; replace hv1 := Lib.hid hv1; clear hb1)
      | (go_at_call 90; (with_reducible refine (of_any 9223372036854775807 _ ?_ ?_).mono ?_); decide; decide; rintro e w3 ⟨v3, rfl, hv3, hb3⟩; have hH3 := hH2.out.kept hb3; have u4 := hH3.c0; have u5 := hH3.c1; replace hH3 := Lib.hid hH3; replace hv3 := Lib.hid hv3; clear hb3)
      | (go_at_call 117; (with_reducible refine (cmp_any _ _ L N 9223372036854775807 _ ?_ ?_ ?_).mono ?_); exact (h0.out.kept hH3.out.bel); exact (hv3.out.wide h5); exact hL; rintro e w4 ⟨rfl, hb4⟩; rw [hc2.out]; have hH4 := hH3.out.kept hb4; replace hH4 := Lib.hid hH4; clear hb4)
      | (go_at_call 117; (with_reducible refine (cmp_any _ _ L N (-9223372036854775808) _ ?_ ?_ ?_).mono ?_); exact (h0.out.kept hH1.out.bel); exact (hv1.out.wide h5); exact hL; rintro e w2 ⟨rfl, hb2⟩; rw [hc1.out]; have hH2 := hH1.out.kept hb2; have u2 := hH2.c0; have u3 := hH2.c1; replace hH2 := Lib.hid hH2; clear hb2))
    all_goals
      go_wp2_with fail
      go_meet
      exact ⟨rfl, hH4.out⟩
  case rest =>
    obtain ⟨rfl, hB⟩ := hcut
    clear k0 k1 hm1 hm2 hc1 hc2
    have k0 := hB.c0
    have k1 := hB.c1
    have hdg := Lib.hid hrow.out.2.1
    have hlen' := Lib.hid hrow.out.1
    have hrow' := Lib.hid (hrow.out.kept hB.bel)
    replace hB := Lib.hid hB
    have hcells := Lib.hid hrow'.out.2.2
    cases b
    · have hhigh : N ≤ 9223372036854775807 := by have := hb.out; simp at this; omega
      have hfin : N = fitRV N ∧ 0 = fitRE N := by unfold fitRV fitRE; rw [if_pos ⟨hlow, hhigh⟩, if_pos ⟨hlow, hhigh⟩]; exact ⟨rfl, rfl⟩
      replace hfin := Lib.hid hfin
      go_upto_block 0 with (fail)
      go_wp2_with fail
      go_loopw [4, 5] (fun t i wr => ∃ (k : Nat) (h : Int), k ≤ l ∧ i = .int .i64 ((k : Int) - 1) ∧ t = .int .i64 (sgB n h) ∧ 0 ≤ h ∧ val ds = dv (dg ds) k + h * pw k ∧ wr = wc) (fun _ i _ => (intOf i + 1).toNat)
      case atStart => exact ⟨l, 0, Nat.le_refl _, rfl, by cases n <;> rfl, by omega, by rw [Int.zero_mul, Int.add_zero, ← hlen'.out]; rfl, rfl⟩
      case round =>
        obtain ⟨k, h, hk, rfl, rfl, hh0, he, rfl⟩ := hrel
        have hle := upper_le hdg.out he hh0
        cases k with
        | zero =>
          have hN' : sgB n h = N := by
            rw [← hN.out, he]
            simp [dv, pw]
          replace hN' := Lib.hid hN'
          clear he
          go_wp2_with fail
          rw [hN'.out]
          go_ret2
          exact ⟨by rw [← hfin.out.1, ← hfin.out.2]; rfl, hB.out.bel⟩
        | succ j =>
          have ej : ((j + 1 : Nat) : Int) - 1 = (j : Int) := by omega
          rw [ej]
          clear ej
          obtain ⟨b, off, rfl, hblt, hc⟩ := hcells.out.resolve_left (by omega)
          have h1 := hc j (by omega)
          have hd := hdg.out j
          have he' := upper_next he
          have hle' := upper_le hdg.out he' (by omega)
          have hNv := hN.out
          clear hc he
          replace he' := Lib.hid he'
          generalize dg ds j = d at *
          generalize val ds = V at *
          clear hle
          cases n
          · have hNv' : V = N := hNv
            clear hNv
            rw [show sgB false h = h from rfl]
            go_wp2_with fail
            exact ⟨⟨j, 10000 * h + d, by omega, rfl, rfl, by omega, he'.out, trivial⟩, by simp [intOf]⟩
          · have hNv' : -V = N := hNv
            clear hNv
            rw [show sgB true h = -h from rfl]
            go_wp2_with fail
            refine ⟨⟨j, 10000 * h + d, by omega, rfl, ?_, by omega, he'.out, trivial⟩, by simp [intOf]⟩
            congr 1
            unfold sgB
            simp
            omega
    · have hhigh : 9223372036854775807 < N := by have := hb.out; simp at this; omega
      have hfin : 0 = fitRV N ∧ 3 = fitRE N := by unfold fitRV fitRE; rw [if_neg (by omega), if_neg (by omega)]; exact ⟨rfl, rfl⟩
      replace hfin := Lib.hid hfin
      go_wp2_with fail
      go_ret2
      exact ⟨by rw [← hfin.out.1, ← hfin.out.2]; rfl, hB.out.bel⟩
end Go.Proofs.YtljclgphgojphaaGreat
