/- The contract of the reference's Chain. -/
import Derived.Test.YtjlfemiboobpiaaR7
namespace Go.Proofs.Ytjlfemiboobpiaa
open Go.RowKit
set_option linter.unusedVariables false

set_option maxRecDepth 100000 in
set_option maxHeartbeats 4000000 in
theorem chainR_any (a : Int) (p : Option Addr) (len cap : Nat) (zs : List Int) (w : World) (ha : Amt a) (hs : Seq64 w p len zs) (hl : len ≤ 1000) :
    Calls Try.prog 23 #[.int .i64 a, .slice p len cap] w fun e w' => e = .returned (.tuple #[.int .i64 (chainL a zs).1, .int .i64 (chainL a zs).2]) ∧ Below w.heap.size w w' := by
  have hzl := Lib.hid hs.1
  have hza := Lib.hid hs.2.1
  replace hs := Lib.hid hs
  replace ha := Lib.hid ha
  go_enter Try.func23, Try.ntmps23
  go_wp2_with fail
  go_loopw [0, 6] (fun t i wr => ∃ (k : Nat) (s : Int), k ≤ len ∧ i = .int .i64 k ∧ t = .int .i64 s ∧ Amt s ∧ chainL s (zs.drop k) = chainL a zs ∧ Below w.heap.size w wr) (fun _ i _ => len - (intOf i).toNat)
  case atStart => exact ⟨0, a, by omega, rfl, rfl, ha.out, by simp, Below.refl _ _⟩
  case round =>
    obtain ⟨k, s, hk, rfl, rfl, hss, hch, hB⟩ := hrel
    obtain ⟨s0, s1⟩ := hss
    replace hch := Lib.hid hch
    by_cases hlt : k < len
    · obtain ⟨b, off, rfl, hblt, hcell⟩ := hs.out.at hB hlt
      obtain ⟨z0, z1⟩ := hza.out k
      have hd := drop_one zs k (by rw [hzl.out]; exact hlt)
      generalize hz : zs.getD k 0 = z at *
      replace hz := Lib.hid hz
      replace hd := Lib.hid hd
      have hbw : b < wr.heap.size := Nat.lt_of_lt_of_le hblt hB.size
      replace hB := Lib.hid hB
      have hki : (k : Int) < (len : Int) := by omega
      have hk0 : (0 : Int) ≤ (k : Int) := by omega
      go_upto_region 4 with (fail)
      go_region_held3 (fun w' => w'.cell? ⟨b, off + k, none⟩ = some (.int .i64 z))
        (first | exact hcell | exact q1 | exact q2 | exact q3 | exact q4)
        (first
          | (go_at_call 12; (with_reducible refine (of_any s _ s0 s1).mono ?_); rintro e w1 ⟨v1, rfl, hv1, hb1⟩; have q1 := (hb1.cell (p := ⟨b, off + k, none⟩) hbw).trans hcell; have hB1 := Lib.hid (hB.out.drew.trans (hb1.mono hB.out.size)); replace hv1 := Lib.hid hv1; have hw1 : b < w1.heap.size := Nat.lt_of_lt_of_le hbw hb1.size; clear hb1)
          | (go_at_call 12; (with_reducible refine (of_any z _ z0 z1).mono ?_); rintro e w2 ⟨v2, rfl, hv2, hb2⟩; have q2 := (hb2.cell (p := ⟨b, off + k, none⟩) hw1).trans q1; have hB2 := Lib.hid (hB1.out.trans (hb2.mono hB1.out.size)); replace hv2 := Lib.hid hv2; have hw2 : b < w2.heap.size := Nat.lt_of_lt_of_le hw1 hb2.size; have hv12 := Lib.hid (hv1.out.kept hb2); clear hb2)
          | (go_at_call 11; (with_reducible refine (addB_any _ _ 5 s z _ ?_ ?_ ?_).mono ?_); exact hv12.out; exact hv2.out; omega; rintro e w3 ⟨v3, rfl, hv3, hb3⟩; have q3 := (hb3.cell (p := ⟨b, off + k, none⟩) hw2).trans q2; have hB3 := Lib.hid (hB2.out.trans (hb3.mono hB2.out.size)); replace hv3 := Lib.hid hv3; have hw3 : b < w3.heap.size := Nat.lt_of_lt_of_le hw2 hb3.size; clear hb3)
          | (go_at_call 10; (with_reducible refine (fit_any _ 6 (s + z) _ ?_ ?_).mono ?_); exact hv3.out; omega; rintro e w4 ⟨rfl, hb4⟩; have q4 := (hb4.cell (p := ⟨b, off + k, none⟩) hw3).trans q3; have hB4 := Lib.hid (hB3.out.trans (hb4.mono hB3.out.size)); clear hb4))
      by_cases hf : -9223372036854775808 ≤ s + z ∧ s + z ≤ 9223372036854775807
      · obtain ⟨f1, f2⟩ := hf
        rw [show fitRV (s + z) = s + z from by unfold fitRV; rw [if_pos ⟨f1, f2⟩], show fitRE (s + z) = 0 from by unfold fitRE; rw [if_pos ⟨f1, f2⟩]]
        clear hcell q1 q2 q3 q4
        go_wp2_with fail
        go_roundw
        case rel =>
          refine ⟨k + 1, s + z, by omega, by go_num, rfl, ⟨f1, f2⟩, ?_, hB4.out⟩
          rw [← hch.out, hd.out, chainL, if_pos ⟨f1, f2⟩]
        case measure => simp [intOf]; omega
      · rw [show fitRV (s + z) = 0 from by unfold fitRV; rw [if_neg hf], show fitRE (s + z) = 3 from by unfold fitRE; rw [if_neg hf]]
        clear hcell q1 q2 q3 q4
        go_wp2_with fail
        go_ret2
        refine ⟨?_, hB4.out⟩
        rw [← hch.out, hd.out, chainL, if_neg hf]
        rfl
    · replace hB := Lib.hid hB
      go_wp2_with fail
      go_ret2
      refine ⟨?_, hB.out⟩
      rw [← hch.out, List.drop_of_length_le (by rw [hzl.out]; omega), chainL]
      rfl
end Go.Proofs.Ytjlfemiboobpiaa
