/- The contract of the program's Crash. -/
import Derived.Test.YtidofjjghbhaaaaE8
namespace Go.Proofs.Ytidofjjghbhaaaa
open Go.RowKit
set_option linter.unusedVariables false

/-- one file, behind a crash -/
theorem lose_dv {P : Nat → Prop} {b k : Nat} {m : DM} {w : World} (h : IsD P w b m) (ok : m.Ok) (hk : k < 4) (x : Int) (hx : x ≤ 9223372036854775807) :
    Calls Try.prog 52 #[.pointer (some ⟨b, 1 + k * 2, none⟩), .int .i64 x] w fun e w' => e = .returned (.tuple #[]) ∧ IsD P w' b (m.lose k x) ∧ Kp (· = b) w w' := by
  obtain ⟨vs, h⟩ := h
  obtain ⟨p, cap, hv, hc, hp⟩ := h.rows.slice hk
  have h0 := h.file hk
  rw [hv] at h0
  refine (crashc_any b (1 + k * 2) p (m.B k).length cap (m.S k) x w h0 (h.sure hk) (obj_free h.obj _) (obj_free h.obj _) (ok.sure k hk) hc (ok.small hk) hp hx).mono ?_
  rintro e w' ⟨rfl, d, rfl⟩
  have hl : m.S k + min (max x 0).toNat ((m.B k).length - m.S k) = m.left k x := rfl
  have hll := m.left_le ok hk x
  refine ⟨rfl, ⟨_, (set_cut_dv (c := m.S k + min (max x 0).toNat ((m.B k).length - m.S k)) (q := m.S k + min (max x 0).toNat ((m.B k).length - m.S k)) h hk hv (by rw [hl]; exact hll)).drewN d⟩, (setF_kp (F := (· = b)) (k := k) (Kp.refl _ w) rfl).drewN d⟩

theorem IsD.small {P : Nat → Prop} {b : Nat} {m : DM} {w : World} (h : IsD P w b m) : b < w.heap.size := by obtain ⟨vs, h⟩ := h; exact obj_lt h.obj
theorem IsD.has {P : Nat → Prop} {b : Nat} {m : DM} {w : World} (h : IsD P w b m) : P b := by obtain ⟨vs, h⟩ := h; exact h.own
theorem IsD.drew {P : Nat → Prop} {w : World} {b : Nat} {m : DM} (h : IsD P w b m) : IsD P w.drew b m := by obtain ⟨vs, h⟩ := h; exact ⟨vs, h.drewN 1⟩
theorem IsD.drewN {P : Nat → Prop} {w : World} {b : Nat} {m : DM} (h : IsD P w b m) (n : Nat) : IsD P (w.drewN n) b m := by obtain ⟨vs, h⟩ := h; exact ⟨vs, h.drewN n⟩

/-- the first files behind a crash -/
def DM.loseTo (m : DM) (xs : Nat → Int) : Nat → DM
  | 0 => m
  | k + 1 => (m.loseTo xs k).lose k (xs k)
theorem DM.Ok.loseTo {m : DM} (h : m.Ok) (xs : Nat → Int) : ∀ k, k ≤ 4 → (m.loseTo xs k).Ok
  | 0, _ => h
  | k + 1, hk => (DM.Ok.loseTo h xs k (by omega)).lose (by omega) _

/-- what Crash's loop holds -/
structure Cr (P : Nat → Prop) (b : Nat) (m : DM) (xs : Nat → Int) (x : Nat) (w wr : World) (k : Nat) : Prop where
  disk : IsD P wr b (m.loseTo xs k)
  kept : ∀ i, i < 4 → wr.cell? ⟨x, i, none⟩ = some (.int .i64 (xs i))
  kp : Kp P w wr

set_option maxHeartbeats 2000000 in
set_option maxRecDepth 100000 in
theorem crash_any (P : Nat → Prop) (b : Nat) (m : DM) (xs : Nat → Int) (w : World) (h : IsD P w b m) (ok : m.Ok) (hP : ∀ j, w.heap.size ≤ j → P j)
    (hx : ∀ k, xs k ≤ 9223372036854775807) :
    Calls Try.prog 19 #[.pointer (some ⟨b, 0, none⟩), .agg #[.int .i64 (xs 0), .int .i64 (xs 1), .int .i64 (xs 2), .int .i64 (xs 3)]] w fun e w' => e = .returned (.tuple #[]) ∧ IsD P w' b (m.crash (xs 0) (xs 1) (xs 2) (xs 3)) ∧ Kp P w w' := by
  have hb := h.small
  have hown := h.has
  have hA : Cr P b m xs w.heap.size w (w.alloc (.cells #[.int .i64 (xs 0), .int .i64 (xs 1), .int .i64 (xs 2), .int .i64 (xs 3)] 42)) 0 := by
    refine ⟨h.kept (F := fun _ => False) ((Kp.refl _ w).alloc _) (fun _ _ _ h => h), fun i hi => ?_, (Kp.refl _ w).alloc _⟩
    obtain rfl | rfl | rfl | rfl : i = 0 ∨ i = 1 ∨ i = 2 ∨ i = 3 := by omega
    all_goals exact cell_later2 rfl
  replace hA := Lib.hid hA
  replace h := Lib.hid h
  replace hx := Lib.hid hx
  replace hP := Lib.hid hP
  go_enter Try.func19, Try.ntmps19
  go_wp2_with fail
  generalize w.alloc (.cells #[.int .i64 (xs 0), .int .i64 (xs 1), .int .i64 (xs 2), .int .i64 (xs 3)] 42) = wa at *
  go_loopw [5] (fun i wr => ∃ k : Nat, k ≤ 4 ∧ i = .int .i64 k ∧ Hid (Cr P b m xs w.heap.size w wr k)) (fun i _ => 4 - (intOf i).toNat)
  case atStart => exact ⟨0, by omega, rfl, hA⟩
  case round =>
    obtain ⟨k, hk, rfl, hC⟩ := hrel
    by_cases hlt : k < 4
    · have hkz : (k : Int) < 4 := by omega
      have kc := hC.out.kept k hlt
      have hL := lose_dv hC.out.disk.drew (ok.loseTo xs k (by omega)) hlt (xs k) (hx.out k)
      replace hL := Lib.hid hL
      go_wp2_with fail
      go_region_held3 (fun w' => w'.cell? ⟨w.heap.size, k, none⟩ = some (.int .i64 (xs k))) (first | exact kc | exact hHeld | exact kc2)
        (first | (go_at_call 52; (with_reducible refine hL.out.mono ?_); rintro e w2 ⟨rfl, hD2, hk2⟩; have kc2 := hk2.cell (p := ⟨w.heap.size, k, none⟩) kc (by show ¬ (w.heap.size = b); omega); replace hD2 := Lib.hid hD2; replace hk2 := Lib.hid hk2))
      clear kc2
      have hN : Hid (Cr P b m xs w.heap.size w w2 (k + 1)) := Lib.hid ⟨hD2.out, fun i hi => hk2.out.cell (p := ⟨w.heap.size, i, none⟩) (hC.out.kept i hi) (by show ¬ (w.heap.size = b); omega), hC.out.kp.drew.trans (hk2.out.mono fun j _ e => by subst e; exact hown)⟩
      go_wp2_with fail
      go_roundw
      case rel => exact ⟨k + 1, by omega, by go_num, hN⟩
      case measure => simp [intOf]; omega
    · obtain rfl : k = 4 := by omega
      have hF := fun w => fresh_any w
      replace hF := Lib.hid hF
      go_wp2_with fail
      refine (hF.out _).mono ?_
      rintro e w2 ⟨rfl, hb2⟩
      obtain ⟨vs, hD⟩ := hC.out.disk.kept (F := fun _ => False) (Kp.of_below hb2) (fun _ _ _ h => h)
      have k9 : w2.cell? ⟨b, 9, none⟩ = some (.bool (m.loseTo xs 4).down) := obj_cell hD.obj rfl
      have k10 : w2.cell? ⟨b, 10, none⟩ = some (.int .i64 (m.loseTo xs 4).fuse) := obj_cell hD.obj rfl
      have f9 := obj_free hD.obj
      have hfin : IsDv P ((w2.setCell ⟨b, 9, none⟩ (.bool false)).setCell ⟨b, 10, none⟩ (.int .i64 (-1))) b (m.crash (xs 0) (xs 1) (xs 2) (xs 3)) vs :=
        ⟨obj_set (obj_set hD.obj 9 (.bool false)) 10 (.int .i64 (-1)), hown, hD.rows.kept fun j _ _ hj => (obj_other _ hj).trans (obj_other _ hj)⟩
      have hkp : Kp P w ((w2.setCell ⟨b, 9, none⟩ (.bool false)).setCell ⟨b, 10, none⟩ (.int .i64 (-1))) := ((hC.out.kp.trans (Kp.of_below hb2)).setCell (.inl hown) _).setCell (.inl hown) _
      replace hD := Lib.hid hD
      replace hfin := Lib.hid hfin
      replace hkp := Lib.hid hkp
      replace hb2 := Lib.hid hb2
      go_wp2_with fail
      go_end0
      exact ⟨rfl, ⟨_, hfin.out⟩, hkp.out⟩
end Go.Proofs.Ytidofjjghbhaaaa
