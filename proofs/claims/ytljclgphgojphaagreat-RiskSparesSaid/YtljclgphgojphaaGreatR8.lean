/- The contracts of the reference's Total and Chain.
  The contract of the reference's Chain. -/
import Derived.Test.YtljclgphgojphaaGreatR6
import Derived.Test.YtljclgphgojphaaGreatB2
namespace Go.Proofs.YtljclgphgojphaaGreat
open Go.RowKit
set_option linter.unusedVariables false

theorem fit_any (v : Value) (L : Nat) (N : Int) (w : World) (h : IsB w v L N) (hL : L ≤ 90000) :
    Calls Tryz.prog 88 #[v] w fun e w' => e = .returned (.tuple #[.int .i64 (fitRV N), .int .i64 (fitRE N)]) ∧ Below w.heap.size w w' := by
  by_cases hlow : N < -9223372036854775808
  · refine (fit_low v (L + 5) N w (h.wide (by omega)) (by omega) (by omega) hlow).mono fun e w' ⟨he, hb⟩ => ⟨?_, hb⟩
    rw [he]
    unfold fitRV fitRE
    rw [if_neg (by omega), if_neg (by omega)]
  · refine fit_test v (L + 5) N _ _ _ w (h.wide (by omega)) (by omega) (by omega) (by omega) rfl ?_ rfl rfl ?_
    · unfold cmp3
      split
      · rfl
      · first | rfl | (rw [if_neg hlow]; rfl)
    · show decide _ = decide _
      unfold cmp3
      by_cases hh : 9223372036854775807 < N
      · rw [if_pos hh]; simp [hh]
      · rw [if_neg hh]
        split <;> simp <;> omega

theorem Seq64.at {w W : World} {p : Option Addr} {len : Nat} {zs : List Int} (h : Seq64 w p len zs) (hb : Below w.heap.size w W) {k : Nat} (hk : k < len) :
    ∃ b off, p = some ⟨b, off, none⟩ ∧ b < w.heap.size ∧ W.cell? ⟨b, off + k, none⟩ = some (.int .i64 (zs.getD k 0)) := by
  obtain ⟨_, _, _, h4⟩ := h
  obtain ⟨b, off, e, hlt, hc⟩ := h4.resolve_left (by omega)
  exact ⟨b, off, e, hlt, (hb.cell (p := ⟨b, off + k, none⟩) hlt).trans (hc k hk)⟩

/-- a Big that is kept in block b, with the result's in block r -/
structure Acc (W : World) (b r : Nat) (L : Nat) (N : Int) (n : Bool) (p : Option Addr) (l c : Nat) : Prop where
  c0 : W.cell? ⟨b, 0, none⟩ = some (.bool n)
  c1 : W.cell? ⟨b, 1, none⟩ = some (.slice p l c)
  f0 : W.frozen? ⟨b, 0, none⟩ = false
  f1 : W.frozen? ⟨b, 1, none⟩ = false
  box : Box W b
  res : Box W r
  isB : IsB W (.agg #[.bool n, .slice p l c]) L N
  lt : r < b
theorem Acc.kept {W W' : World} {b r L : Nat} {N : Int} {n : Bool} {p : Option Addr} {l c : Nat} (h : Acc W b r L N n p l c) (hb : Below W.heap.size W W') : Acc W' b r L N n p l c :=
  ⟨(hb.cell (p := ⟨b, 0, none⟩) h.box.lt).trans h.c0, (hb.cell (p := ⟨b, 1, none⟩) h.box.lt).trans h.c1, (hb.frozen (p := ⟨b, 0, none⟩) h.box.lt).trans h.f0, (hb.frozen (p := ⟨b, 1, none⟩) h.box.lt).trans h.f1, h.box.stays hb, h.res.stays hb, h.isB.kept hb, h.lt⟩
theorem Acc.drew {W : World} {b r L : Nat} {N : Int} {n : Bool} {p : Option Addr} {l c : Nat} (h : Acc W b r L N n p l c) : Acc W.drew b r L N n p l c := ⟨h.c0, h.c1, h.f0, h.f1, h.box, h.res, h.isB, h.lt⟩
theorem Box.set {w : World} {B : Nat} (h : Box w B) (x : Bool) (q : Option Addr) (l c : Nat) : Box ((w.setCell ⟨B, 0, none⟩ (.bool x)).setCell ⟨B, 1, none⟩ (.slice q l c)) B := by
  obtain ⟨x', q', l', c', e⟩ := h
  refine ⟨x, q, l, c, ?_⟩
  simp [World.setCell, Array.getElem?_modify, e]
theorem Box.other {w : World} {B : Nat} (h : Box w B) {a : Addr} (hne : B ≠ a.block) (u : Value) : Box (w.setCell a u) B := by
  obtain ⟨x', q', l', c', e⟩ := h
  exact ⟨x', q', l', c', (Below.heap_setCell w a u B hne).trans e⟩
theorem IsB.store {w : World} {B : Nat} {v : Value} {L : Nat} {N : Int} (h : IsB w v L N) (hb : Box w B) (u u' : Value) : IsB ((w.setCell ⟨B, 0, none⟩ u).setCell ⟨B, 1, none⟩ u') v L N := by
  obtain ⟨neg, p, len, cap, ds, h1, h2, h3⟩ := h
  exact ⟨neg, p, len, cap, ds, h1, hb.stored h2 u u', h3⟩
theorem Acc.put {W : World} {b r : Nat} {L : Nat} {N : Int} {n : Bool} {p : Option Addr} {l c : Nat} (hb : Box W b) (hr : Box W r) (hlt : r < b) (h : IsB W (.agg #[.bool n, .slice p l c]) L N) :
    Acc ((W.setCell ⟨b, 0, none⟩ (.bool n)).setCell ⟨b, 1, none⟩ (.slice p l c)) b r L N n p l c := by
  have hb' := hb.set n p l c
  obtain ⟨x, q, l', c', e0, e1, e2, e3⟩ := hb'.cells
  obtain ⟨y0, y1, y2, y3, y4, y5, y6, y7⟩ := hb.cells
  clear e0 e1
  exact ⟨by go_simp, by go_simp, e2, e3, hb', (hr.other (by simp; omega) _).other (by simp; omega) _, h.store hb _ _, hlt⟩

end Go.Proofs.YtljclgphgojphaaGreat
namespace Go.Proofs.YtljclgphgojphaaGreat
open Go.RowKit
set_option linter.unusedVariables false

set_option maxRecDepth 100000 in
set_option maxHeartbeats 4000000 in
theorem chainR_any (a : Int) (p : Option Addr) (len cap : Nat) (zs : List Int) (w : World) (ha : Amt a) (hs : Seq64 w p len zs) (hl : len ≤ 1000) :
    Calls Tryz.prog 85 #[.int .i64 a, .slice p len cap] w fun e w' => e = .returned (.tuple #[.int .i64 (chainL a zs).1, .int .i64 (chainL a zs).2]) ∧ Below w.heap.size w w' := by
  have hzl := Lib.hid hs.1
  have hza := Lib.hid hs.2.1
  replace hs := Lib.hid hs
  replace ha := Lib.hid ha
  go_enter Tryz.func85, Tryz.ntmps85
  go_wp2_with fail
  go_loopw [0, 6] (fun t i wr => ∃ (k : Nat) (s : Int), k ≤ len ∧ i = .int .i64 k ∧ t = .int .i64 s ∧ Amt s ∧ chainL s (zs.drop k) = chainL a zs ∧ Below w.heap.size w wr) (fun _ i _ => len - (intOf i).toNat)
  case atStart => exact ⟨0, a, by omega, rfl, rfl, ha.out, by simp, Below.refl _ _⟩
  case round =>
    obtain ⟨k, s, hk, rfl, rfl, hss, hch, hB⟩ := hrel
    obtain ⟨s0, s1⟩ := hss
    replace hch := Lib.hid hch
    by_cases hlt : k < len
    · obtain ⟨b, off, rfl, hblt, hcell⟩ := hs.out.at hB hlt
      obtain ⟨z0, z1⟩ := hza.out k
      have hd := drop_one zs k (by rw [hzl.out]; exact hlt)
      generalize hz : zs.getD k 0 = z at *
      replace hz := Lib.hid hz
      replace hd := Lib.hid hd
      have hbw : b < wr.heap.size := Nat.lt_of_lt_of_le hblt hB.size
      replace hB := Lib.hid hB
      have hki : (k : Int) < (len : Int) := by omega
      have hk0 : (0 : Int) ≤ (k : Int) := by omega
      go_upto_region 4 with (fail)
      go_region_held3 (fun w' => w'.cell? ⟨b, off + k, none⟩ = some (.int .i64 z))
        (first | exact hcell | exact q1 | exact q2 | exact q3 | exact q4)
        (first
          | (go_at_call 90; (with_reducible refine (of_any s _ s0 s1).mono ?_); rintro e w1 ⟨v1, rfl, hv1, hb1⟩; have q1 := (hb1.cell (p := ⟨b, off + k, none⟩) hbw).trans hcell; have hB1 := Lib.hid (hB.out.drew.trans (hb1.mono hB.out.size)); replace hv1 := Lib.hid hv1; have hw1 : b < w1.heap.size := Nat.lt_of_lt_of_le hbw hb1.size; clear hb1)
          | (go_at_call 90; (with_reducible refine (of_any z _ z0 z1).mono ?_); rintro e w2 ⟨v2, rfl, hv2, hb2⟩; have q2 := (hb2.cell (p := ⟨b, off + k, none⟩) hw1).trans q1; have hB2 := Lib.hid (hB1.out.trans (hb2.mono hB1.out.size)); replace hv2 := Lib.hid hv2; have hw2 : b < w2.heap.size := Nat.lt_of_lt_of_le hw1 hb2.size; have hv12 := Lib.hid (hv1.out.kept hb2); clear hb2)
          | (go_at_call 89; (with_reducible refine (addB_any _ _ 5 s z _ ?_ ?_ ?_).mono ?_); exact hv12.out; exact hv2.out; omega; rintro e w3 ⟨v3, rfl, hv3, hb3⟩; have q3 := (hb3.cell (p := ⟨b, off + k, none⟩) hw2).trans q2; have hB3 := Lib.hid (hB2.out.trans (hb3.mono hB2.out.size)); replace hv3 := Lib.hid hv3; have hw3 : b < w3.heap.size := Nat.lt_of_lt_of_le hw2 hb3.size; clear hb3)
          | (go_at_call 88; (with_reducible refine (fit_any _ 6 (s + z) _ ?_ ?_).mono ?_); exact hv3.out; omega; rintro e w4 ⟨rfl, hb4⟩; have q4 := (hb4.cell (p := ⟨b, off + k, none⟩) hw3).trans q3; have hB4 := Lib.hid (hB3.out.trans (hb4.mono hB3.out.size)); clear hb4))
      by_cases hf : -9223372036854775808 ≤ s + z ∧ s + z ≤ 9223372036854775807
      · obtain ⟨f1, f2⟩ := hf
        rw [show fitRV (s + z) = s + z from by unfold fitRV; rw [if_pos ⟨f1, f2⟩], show fitRE (s + z) = 0 from by unfold fitRE; rw [if_pos ⟨f1, f2⟩]]
        clear hcell q1 q2 q3 q4
        go_wp2_with fail
        go_roundw
        case rel =>
          refine ⟨k + 1, s + z, by omega, by go_num, rfl, ⟨f1, f2⟩, ?_, hB4.out⟩
          rw [← hch.out, hd.out, chainL, if_pos ⟨f1, f2⟩]
        case measure => simp [intOf]; omega
      · rw [show fitRV (s + z) = 0 from by unfold fitRV; rw [if_neg hf], show fitRE (s + z) = 3 from by unfold fitRE; rw [if_neg hf]]
        clear hcell q1 q2 q3 q4
        go_wp2_with fail
        go_ret2
        refine ⟨?_, hB4.out⟩
        rw [← hch.out, hd.out, chainL, if_neg hf]
        rfl
    · replace hB := Lib.hid hB
      go_wp2_with fail
      go_ret2
      refine ⟨?_, hB.out⟩
      rw [← hch.out, List.drop_of_length_le (by rw [hzl.out]; omega), chainL]
      rfl
end Go.Proofs.YtljclgphgojphaaGreat
