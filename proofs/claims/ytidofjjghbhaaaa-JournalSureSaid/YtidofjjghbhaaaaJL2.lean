/- The contract of the law's same. -/
import Derived.Test.YtidofjjghbhaaaaJL1
import Derived.Deep.RegionHeld3
namespace Go.Proofs.Ytidofjjghbhaaaa
open Go.RowKit
set_option linter.unusedVariables false

/-- the program's side: a disk, or a journal on it -/
def PX (I : JI) (d : Nat) (m : DM) (oj : Option JM) (jb : Nat) : (Nat → Prop) → World → Prop := fun P w => match oj with | none => IsD P w d m | some j => I.IsJ P w jb d m j
/-- the reference's side -/
def RX (r : Nat) (m : DM) (oj : Option JM) (rb : Nat) : (Nat → Prop) → World → Prop := fun P w => match oj with | none => IsR w r m ∧ P r | some j => RJ P w rb r m j
def jp (oj : Option JM) (b : Nat) : Value := match oj with | none => .pointer none | some _ => .pointer (some ⟨b, 0, none⟩)
theorem livePX (I : JI) (d : Nat) (m : DM) (oj : Option JM) (jb : Nat) : Live (PX I d m oj jb) := by cases oj; exact liveD d m; exact I.live jb d m _
theorem liveRX (r : Nat) (m : DM) (oj : Option JM) (rb : Nat) : Live (RX r m oj rb) := by cases oj; exact liveR r m; exact liveRJ rb r m _
theorem PX.disk {I : JI} {d : Nat} {m : DM} {oj : Option JM} {jb : Nat} {P : Nat → Prop} {w : World} (h : PX I d m oj jb P w) : IsD P w d m := by cases oj; exact h; exact I.disk h
theorem RX.disk {r : Nat} {m : DM} {oj : Option JM} {rb : Nat} {P : Nat → Prop} {w : World} (h : RX r m oj rb P w) : IsR w r m ∧ P r := by cases oj; exact h; exact ⟨RJ.disk h, RJ.pd h⟩

theorem readJ_any (P : Nat → Prop) (b : Nat) (m : DM) (f : Int) (w : World) (h : IsD P w b m) :
    Calls Try.prog 50 #[.pointer (some ⟨b, 0, none⟩), .int .i64 f] w fun e w' => e = .returned (.tuple #[if isFile f then sv (m.B f.toNat) else sv [], .int .i64 (if isFile f then 0 else 1)]) ∧ w = w' := by
  obtain ⟨vs, h⟩ := h
  exact read_any P b m vs f w h

set_option maxHeartbeats 4000000 in
set_option maxRecDepth 100000 in
theorem same_none (d : Nat) (w : World) : Calls Try.prog 17 #[.pointer none, .pointer none, .pointer (some ⟨d, 0, none⟩)] w fun e w' => e = .returned (.bool true) ∧ w = w' := by
  go_enter Try.func17, Try.ntmps17
  go_wp2_with fail
  go_loop [7] (fun i => i = .int .i64 0) (fun _ => 0)
  case atStart => rfl
  case round =>
    obtain rfl := hrel
    go_wp2_with fail
    go_ret
    exact ⟨rfl, rfl⟩

set_option maxHeartbeats 4000000 in
set_option maxRecDepth 100000 in
theorem same_some (I : JI) (P Q : Nat → Prop) (jb d rb r : Nat) (m : DM) (j : JM) (w : World) (hJ : I.IsJ P w jb d m j) (hR : RJ Q w rb r m j) (hl : j.last < 9223372036854000000) (hrl : j.recs.length < 33000000) :
    Calls Try.prog 17 #[.pointer (some ⟨jb, 0, none⟩), .pointer (some ⟨rb, 0, none⟩), .pointer (some ⟨d, 0, none⟩)] w fun e w' => e = .returned (.bool true) ∧ Below w.heap.size w w' := by
  obtain ⟨p, cap, hj, hrow, hpa⟩ := hR.jobj
  have q0 : w.cell? ⟨rb, 0, none⟩ = some (.pointer (some ⟨r, 0, none⟩)) := obj_cell hj rfl
  have q1 : w.cell? ⟨rb, 1, none⟩ = some (sv j.text) := obj_cell hj rfl
  have q2 : w.cell? ⟨rb, 2, none⟩ = some (.int .i64 (j.base : Nat)) := obj_cell hj rfl
  have q3 : w.cell? ⟨rb, 3, none⟩ = some (.slice p j.recs.length cap) := obj_cell hj rfl
  have hjl := obj_lt hj
  have cD := readJ_any P d m
  have hD := I.disk hJ
  have cT := I.text hJ
  have hlk : ∀ w', Below w.heap.size w w' → I.IsJ P w' jb d m j := fun w' hb => (I.live jb d m j).kept hJ (Kp.of_below (F := fun _ => False) hb) (fun _ _ _ h => h)
  have cL := fun w' hb => I.last (hlk w' hb) hl
  have cR := fun w' hb => I.records (hlk w' hb) hrl
  have hz : IntKind.i64.wrap ((j.base : Int) + (j.recs.length : Int)) = ((j.last : Nat) : Int) := by unfold JM.last at *; rw [IntKind.wrap_i64] <;> omega
  have hdisk := hR.disk
  unfold sv at q1 cT
  obtain ⟨Tx, hTx⟩ : ∃ T : ByteArray, (⟨j.text.toArray⟩ : ByteArray) = T := ⟨_, rfl⟩
  rw [hTx] at q1 cT
  generalize j.last = last at *
  replace hTx := Lib.hid hTx
  replace hJ := Lib.hid hJ
  replace hR := Lib.hid hR
  replace hj := Lib.hid hj
  replace hrow := Lib.hid hrow
  replace hpa := Lib.hid hpa
  replace cD := Lib.hid cD
  replace hD := Lib.hid hD
  replace cT := Lib.hid cT
  replace hlk := Lib.hid hlk
  replace cL := Lib.hid cL
  replace cR := Lib.hid cR
  replace hdisk := Lib.hid hdisk
  go_enter Try.func17, Try.ntmps17
  go_wp2_with fail
  go_loop [7] (fun i => ∃ k : Nat, k ≤ 4 ∧ i = .int .i64 k) (fun i => 4 - (intOf i).toNat)
  case atStart => exact ⟨0, by omega, rfl⟩
  case round =>
    obtain ⟨k, hk, rfl⟩ := hrel
    by_cases hk4 : k < 4
    · have hkz : (k : Int) < 4 := by omega
      have t := hdisk.out.text hk4
      have cRd := cD.out (k : Int) w hD.out
      have hif : isFile (k : Int) = true := by unfold isFile; simp; omega
      rw [if_pos hif, if_pos hif] at cRd
      have hnat : ((k : Int)).toNat = k := by omega
      rw [hnat] at cRd
      unfold sv at t cRd
      generalize (⟨(m.B k).toArray⟩ : ByteArray) = S at *
      replace cRd := Lib.hid cRd
      replace hif := Lib.hid hif
      replace hnat := Lib.hid hnat
      go_wp2_with (first | (go_at_call 50; (with_reducible refine cRd.out.mono ?_); rintro e w' ⟨rfl, rfl⟩))
      go_round
      case rel => exact ⟨k + 1, by omega, by go_num⟩
      case measure => simp [intOf]; omega
    · obtain rfl : k = 4 := by omega
      go_upto_region 12 with (first | (go_at_call 25; (with_reducible refine cT.out.mono ?_); rintro e w0 ⟨rfl, nt, hw0⟩; have hB00 : Below w.heap.size w w0 := (by rw [hw0]; exact below_dn (Below.refl _ w) nt); clear hw0; have q1z := (hB00.cell (p := ⟨rb, 1, none⟩) hjl).trans q1; have q2z := (hB00.cell (p := ⟨rb, 2, none⟩) hjl).trans q2; have q3z := (hB00.cell (p := ⟨rb, 3, none⟩) hjl).trans q3; replace hB00 := Lib.hid hB00))
      have cSm := fun (p1 : Option Addr) (cap1 : Nat) (w' : World) (h1 : SRow w' p1 j.recs.length j.recs) (h2 : SRow w' p j.recs.length j.recs) => same_any p1 p j.recs.length j.recs.length cap1 cap j.recs j.recs w' h1 h2 (by omega)
      rw [decide_eq_true rfl] at cSm
      have hlz : ((last : Int) == (last : Int)) = true := by simp
      have hbz : ((j.base : Int) == (j.base : Int)) = true := by simp
      replace cSm := Lib.hid cSm
      have hBc : Below w.heap.size w w0.drew := hB00.out.drew
      replace hBc := Lib.hid hBc
      go_region_held3 (fun w' => w'.cell? ⟨rb, 1, none⟩ = some (.string Tx) ∧ w'.cell? ⟨rb, 2, none⟩ = some (.int .i64 (j.base : Nat)) ∧ w'.cell? ⟨rb, 3, none⟩ = some (.slice p j.recs.length cap)) (first | exact ⟨q1z, q2z, q3z⟩ | exact hHeld | exact ⟨q1', q2', q3'⟩)
        (first
          | (go_at_call 28; (with_reducible refine (cR.out _ hBc.out).mono ?_); rintro e w1 ⟨⟨p1, cap1, rfl, hs1⟩, hb1⟩; have hW1 := hBc.out.trans (hb1.mono hBc.out.size); clear hBc; have hBc := Lib.hid hW1; have q1' := (hW1.cell (p := ⟨rb, 1, none⟩) hjl).trans q1; have q2' := (hW1.cell (p := ⟨rb, 2, none⟩) hjl).trans q2; have q3' := (hW1.cell (p := ⟨rb, 3, none⟩) hjl).trans q3; have hr1 := hrow.out.kept hW1; clear hW1; replace hs1 := Lib.hid hs1; replace hr1 := Lib.hid hr1; clear hb1)
          | (go_at_call 27; (with_reducible refine (cSm.out _ _ _ hs1.out hr1.out).mono ?_); rintro e w2 ⟨rfl, n2, rfl⟩; replace hBc := Lib.hid (below_dn hBc.out n2))
          | (go_at_call 26; (with_reducible refine (cL.out _ hBc.out).mono ?_); rintro e w' ⟨rfl, nl, rfl⟩; replace hBc := Lib.hid (below_dn hBc.out nl); (try replace hs1 := Lib.hid (hs1.out.drewN nl)); (try replace hr1 := Lib.hid (hr1.out.drewN nl))))
      all_goals
        go_wp2_with fail
        go_ret
        first
          | exact ⟨rfl, hBc.out⟩
          | exact ⟨rfl, by have := hBc.out; simpa using this⟩
end Go.Proofs.Ytidofjjghbhaaaa
