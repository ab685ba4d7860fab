/- The contracts of the program's do, Sync, Cut, Append, Move, Crash. -/
import Derived.Test.YtidofjjghbhaaaaE4
namespace Go.Proofs.Ytidofjjghbhaaaa
open Go.RowKit
set_option linter.unusedVariables false

set_option maxHeartbeats 1000000 in
set_option maxRecDepth 100000 in
theorem do_any (b : Nat) (gone : Bool) (fz : Int) (g : Nat) (cb : Array Value) (w : World) (R : Ending → World → Prop) (h0 : w.cell? ⟨b, 9, none⟩ = some (.bool gone)) (h1 : w.cell? ⟨b, 10, none⟩ = some (.int .i64 fz))
    (hz0 : w.frozen? ⟨b, 9, none⟩ = false) (hz : w.frozen? ⟨b, 10, none⟩ = false) (hf : -1 ≤ fz ∧ fz ≤ 9223372036854775807)
    (henter : ∀ w, (callFunc g cb).run Try.prog w = .ok (.enter g cb) w) (hno : pw gone fz = false → R (.returned (.int .i64 9)) (burntW w b 9 gone fz))
    (hyes : pw gone fz = true → Calls Try.prog g cb (burntW w b 9 gone fz) fun e w' => ∃ v, e = .returned v ∧ R (.returned v) w') :
    Calls Try.prog 31 #[.pointer (some ⟨b, 0, none⟩), .func (.func g) #[] cb] w R := by
  have hB := burn_any b 9 gone fz w h0 h1 hz0 hz hf
  replace hB := Lib.hid hB
  clear h0 h1 hz0 hz hf
  cases hp : pw gone fz with
  | false =>
    rw [hp] at hB
    replace hno := hno hp
    replace hno := Lib.hid hno
    replace hp := Lib.hid hp
    clear hyes
    generalize burntW w b 9 gone fz = w1 at *
    go_enter Try.func31, Try.ntmps31
    go_wp2_with (first | (go_at_call 72; refine (hB.out).mono ?_; rintro e w' ⟨rfl, rfl⟩))
    exact hno.out
  | true =>
    rw [hp] at hB
    replace hyes := hyes hp
    replace hyes := Lib.hid hyes
    replace hp := Lib.hid hp
    clear hno
    generalize burntW w b 9 gone fz = w1 at *
    go_enter Try.func31, Try.ntmps31
    go_wp2_with (first | (go_at_call 72; refine (hB.out).mono ?_; rintro e w' ⟨rfl, rfl⟩))
    refine hyes.out.mono ?_
    rintro e w' ⟨v, rfl, hR⟩
    replace hR := Lib.hid hR
    go_wp2_with fail
    exact hR.out
theorem enter30 (cb : Array Value) (w : World) : (callFunc 32 cb).run Try.prog w = .ok (.enter 32 cb) w := by kernel_rfl
theorem enter32 (cb : Array Value) (w : World) : (callFunc 85 cb).run Try.prog w = .ok (.enter 85 cb) w := by kernel_rfl
theorem enter34 (cb : Array Value) (w : World) : (callFunc 38 cb).run Try.prog w = .ok (.enter 38 cb) w := by kernel_rfl
theorem enter36 (cb : Array Value) (w : World) : (callFunc 86 cb).run Try.prog w = .ok (.enter 86 cb) w := by kernel_rfl

theorem pw_pow (m : DM) : pw m.down m.fuse = m.pow := rfl
theorem burnt_dv {P : Nat → Prop} {w : World} {b : Nat} {m : DM} {vs : Nat → Value} (h : IsDv P w b m vs) (ok : m.Ok) : IsDv P (burntW w b 9 m.down m.fuse) b m.burnt vs ∧ Kp (· = b) w (burntW w b 9 m.down m.fuse) := by
  have hk : ∀ i v, Kp (· = b) w (w.setCell ⟨b, i, none⟩ v) := fun i v => (Kp.refl _ _).setCell (F := (· = b)) (.inl rfl) _
  have hr : ∀ i v, Rows4 P (w.setCell ⟨b, i, none⟩ v) b vs m.B := fun i v => h.rows.kept fun j _ _ hj => obj_other _ hj
  have hf := ok.fuse
  unfold burntW DM.burnt
  by_cases e0 : m.fuse = 0
  · have hp : m.pow = false := by unfold DM.pow; simp [e0]
    rw [if_pos e0, hp, if_neg (by simp)]
    exact ⟨⟨obj_set h.obj 9 _, h.own, hr _ _⟩, hk _ _⟩
  · rw [if_neg e0]
    cases hd : m.down with
    | true =>
      have hp : m.pow = false := by unfold DM.pow; simp [hd]
      rw [if_pos rfl, hp, if_neg (by simp)]
      have ho := h.obj
      rw [hd] at ho
      exact ⟨⟨ho, h.own, h.rows⟩, Kp.refl _ _⟩
    | false =>
      have hp : m.pow = true := by unfold DM.pow; simp [hd, e0]
      rw [if_neg (by simp), hp, if_pos rfl]
      by_cases e1 : m.fuse = -1
      · rw [if_pos e1, if_neg (by omega)]
        exact ⟨⟨by have ho := h.obj; rw [hd] at ho; exact ho, h.own, h.rows⟩, Kp.refl _ _⟩
      · rw [if_neg e1, if_pos (by omega)]
        refine ⟨⟨?_, h.own, hr _ _⟩, hk _ _⟩
        have ho := obj_set h.obj 10 (.int .i64 (m.fuse - 1))
        rw [hd] at ho
        exact ho

/-- behind a store into one of b's cells -/
theorem set_sure_dv {P : Nat → Prop} {w : World} {b k n : Nat} {m : DM} {vs : Nat → Value} (h : IsDv P w b m vs) (hk : k < 4) : IsDv P (w.setCell ⟨b, 1 + k * 2 + 1, none⟩ (.int .i64 (n : Nat))) b (m.put m.B (upd m.S k n)) vs := by
  refine ⟨?_, h.own, h.rows.kept fun j _ _ hj => obj_other _ hj⟩
  have ho := obj_set h.obj (1 + k * 2 + 1) (.int .i64 (n : Nat))
  rw [dArr_set_sure _ _ _ _ _ k hk] at ho
  exact ho
theorem IsDv.file {P : Nat → Prop} {w : World} {b k : Nat} {m : DM} {vs : Nat → Value} (h : IsDv P w b m vs) (hk : k < 4) : w.cell? ⟨b, 1 + k * 2, none⟩ = some (vs k) := obj_cell h.obj (dArr_file _ _ _ _ _ k hk)
theorem IsDv.sure {P : Nat → Prop} {w : World} {b k : Nat} {m : DM} {vs : Nat → Value} (h : IsDv P w b m vs) (hk : k < 4) : w.cell? ⟨b, 1 + k * 2 + 1, none⟩ = some (.int .i64 (m.S k : Nat)) := obj_cell h.obj (dArr_sure _ _ _ _ _ k hk)
theorem IsDv.drewN {P : Nat → Prop} {w : World} {b : Nat} {m : DM} {vs : Nat → Value} (h : IsDv P w b m vs) (n : Nat) : IsDv P (w.drewN n) b m vs := ⟨h.obj, h.own, ⟨h.rows.row, h.rows.perm, h.rows.apart⟩⟩

set_option maxHeartbeats 1000000 in
set_option maxRecDepth 100000 in
theorem syncC_any (P : Nat → Prop) (x y b k : Nat) (m : DM) (vs : Nat → Value) (w : World) (h : IsDv P w b m vs) (hx : w.cell? ⟨x, 0, none⟩ = some (.pointer (some ⟨b, 0, none⟩))) (hy : w.cell? ⟨y, 0, none⟩ = some (.int .i64 (k : Int))) (hk : k < 4)
    (hxb : x ≠ b) (hyb : y ≠ b) :
    Calls Try.prog 38 #[.pointer (some ⟨x, 0, none⟩), .pointer (some ⟨y, 0, none⟩)] w fun e w' => ∃ v, e = .returned v ∧ Ending.returned v = .returned (.int .i64 0) ∧ IsD P w' b (m.put m.B (upd m.S k (m.B k).length)) ∧ Kp (· = b) w w' := by
  obtain ⟨p, cap, hv, hc, _⟩ := h.rows.slice hk
  have h0 := h.file hk
  rw [hv] at h0
  have hM' := sure_any b (1 + k * 2) p (m.B k).length cap _ w.drew h0 (h.sure hk) (obj_free h.obj _)
  have hkz : (k : Int) < 4 := by omega
  have kx : ∀ u, ((w.setCell ⟨b, 1 + k * 2 + 1, none⟩ u).drew).cell? ⟨x, 0, none⟩ = some (.pointer (some ⟨b, 0, none⟩)) := fun u => by rw [World.cell?_drew, World.cell?_setCell_other _ _ _ _ (by simp)]; exact hx
  have ky : ∀ u, ((w.setCell ⟨b, 1 + k * 2 + 1, none⟩ u).drew).cell? ⟨y, 0, none⟩ = some (.int .i64 (k : Int)) := fun u => by rw [World.cell?_drew, World.cell?_setCell_other _ _ _ _ (by simp)]; exact hy
  have hfin := (set_sure_dv (n := (m.B k).length) h hk).drewN 1
  replace hfin := Lib.hid hfin
  clear h0 hv
  generalize (m.B k).length = n at *
  replace hM' := Lib.hid hM'
  replace h := Lib.hid h
  go_enter Try.func38, Try.ntmps38
  go_wp2_with fail
  go_region_held3 (fun w' => w'.cell? ⟨x, 0, none⟩ = some (.pointer (some ⟨b, 0, none⟩)) ∧ w'.cell? ⟨y, 0, none⟩ = some (.int .i64 (k : Int))) (first | exact ⟨hx, hy⟩ | exact hHeld | exact ⟨kx _, ky _⟩)
    (first
      | (go_at_call 39; (with_reducible refine (hM'.out).mono ?_); rintro e w' ⟨rfl, rfl⟩))
  clear kx ky
  go_wp2_with fail
  go_ret
  exact ⟨_, rfl, rfl, ⟨_, hfin.out⟩, (((Kp.refl _ _).setCell (F := (· = b)) (.inl rfl) _).drewN 1)⟩
/-- do, over a disk: the closure goes on from the disk behind burning -/
theorem do_dv (P : Nat → Prop) (b : Nat) (m : DM) (vs : Nat → Value) (g : Nat) (cb : Array Value) (w : World) (h : IsDv P w b m vs) (ok : m.Ok) (henter : ∀ w, (callFunc g cb).run Try.prog w = .ok (.enter g cb) w) (r : Int × DM)
    (hno : m.pow = false → r = (9, m.burnt))
    (hyes : m.pow = true → ∀ w1, IsDv P w1 b m.burnt vs → Kp (· = b) w w1 → Calls Try.prog g cb w1 fun e w' => ∃ v, e = .returned v ∧ Ending.returned v = .returned (.int .i64 r.1) ∧ IsD P w' b r.2 ∧ Kp P w1 w') :
    Calls Try.prog 31 #[.pointer (some ⟨b, 0, none⟩), .func (.func g) #[] cb] w fun e w' => e = .returned (.int .i64 r.1) ∧ IsD P w' b r.2 ∧ Kp P w w' := by
  obtain ⟨hd, hk⟩ := burnt_dv h ok
  have hkP : Kp P w (burntW w b 9 m.down m.fuse) := hk.mono fun j _ e => by subst e; exact h.own
  have h9 : w.cell? ⟨b, 9, none⟩ = some (.bool m.down) := obj_cell h.obj rfl
  have h10 : w.cell? ⟨b, 10, none⟩ = some (.int .i64 m.fuse) := obj_cell h.obj rfl
  refine do_any b m.down m.fuse g cb w _ h9 h10 (obj_free h.obj 9) (obj_free h.obj 10) ok.fuse henter ?_ ?_
  · intro hp
    rw [hno hp]
    exact ⟨rfl, ⟨_, hd⟩, hkP⟩
  · intro hp
    refine (hyes hp _ hd hk).mono ?_
    rintro e w' ⟨v, rfl, hv, hD, hK⟩
    exact ⟨v, rfl, hv, hD, hkP.trans hK⟩

set_option maxHeartbeats 2000000 in
set_option maxRecDepth 100000 in
theorem sync_any (P : Nat → Prop) (b : Nat) (m : DM) (f : Int) (w : World) (h : IsD P w b m) (ok : m.Ok) (hP : ∀ j, w.heap.size ≤ j → P j) :
    Calls Try.prog 13 #[.pointer (some ⟨b, 0, none⟩), .int .i64 f] w fun e w' => e = .returned (.int .i64 (m.syn f).1) ∧ IsD P w' b (m.syn f).2 ∧ Kp P w w' := by
  obtain ⟨vs, h⟩ := h
  have hb := obj_lt h.obj
  have hH := fun w => has_any f w
  cases hf : isFile f with
  | false =>
    have e1 : m.syn f = (1, m) := by unfold DM.syn; rw [hf]; rfl
    rw [e1]
    rw [hf] at hH
    replace hH := Lib.hid hH
    have hk : Kp P w ((w.alloc (.cells #[.pointer (some ⟨b, 0, none⟩)] 26)).alloc (.cells #[.int .i64 f] 3)) := ((Kp.refl P w).alloc _).alloc _
    have hk0 : Kp (fun _ => False) w ((w.alloc (.cells #[.pointer (some ⟨b, 0, none⟩)] 26)).alloc (.cells #[.int .i64 f] 3)) := ((Kp.refl _ w).alloc _).alloc _
    have hD := h.kept hk0 (fun _ _ _ h => h)
    replace h := Lib.hid h
    replace hD := Lib.hid hD
    replace hk := Lib.hid hk
    clear hk0 e1 hf
    go_enter Try.func13, Try.ntmps13
    go_wp2_with (first | (go_at_call 30; refine (hH.out _).mono ?_; rintro e w' ⟨rfl, rfl⟩))
    go_ret
    exact ⟨rfl, ⟨_, hD.out⟩, hk.out⟩
  | true =>
    obtain ⟨k, rfl, hk⟩ := isFile_nat hf
    rw [hf] at hH
    replace hH := Lib.hid hH
    have hkk : Kp P w ((w.alloc (.cells #[.pointer (some ⟨b, 0, none⟩)] 26)).alloc (.cells #[.int .i64 (k : Int)] 3)) := ((Kp.refl P w).alloc _).alloc _
    have hk0 : Kp (fun _ => False) w ((w.alloc (.cells #[.pointer (some ⟨b, 0, none⟩)] 26)).alloc (.cells #[.int .i64 (k : Int)] 3)) := ((Kp.refl _ w).alloc _).alloc _
    have hD := h.kept hk0 (fun _ _ _ h => h)
    have hDo := do_dv P b m vs 38 #[.pointer (some ⟨w.heap.size, 0, none⟩), .pointer (some ⟨w.heap.size + 1, 0, none⟩)] _ hD ok (enter34 _) (m.syn (k : Int))
      (fun hp => by unfold DM.syn; rw [hf, hp]; rfl)
      (fun hp w1 hD1 hK1 => by
        have e1 : m.syn (k : Int) = (0, m.burnt.put m.burnt.B (upd m.burnt.S k (m.burnt.B k).length)) := by unfold DM.syn; rw [hf, hp, m.burnt_B, m.burnt_S]; rfl
        rw [e1]
        refine (syncC_any P w.heap.size (w.heap.size + 1) b k m.burnt vs w1 hD1 ?_ ?_ hk (by omega) (by omega)).mono ?_
        · refine hK1.cell ?_ (by show ¬ (w.heap.size = b); omega)
          rw [World.cell?_alloc_lt _ _ _ (by simp), World.cell?_alloc_new]; rfl
        · refine hK1.cell ?_ (by show ¬ (w.heap.size + 1 = b); omega)
          exact cell_later2 (by simp)
        · rintro e w' ⟨v, rfl, hv, hD2, hK2⟩
          exact ⟨v, rfl, hv, hD2, hK2.mono fun j _ e => by subst e; exact h.own⟩)
    replace h := Lib.hid h
    replace hD := Lib.hid hD
    replace hkk := Lib.hid hkk
    replace hDo := Lib.hid hDo
    clear hk0 hf
    go_enter Try.func13, Try.ntmps13
    go_wp2_with (first | (go_at_call 30; refine (hH.out _).mono ?_; rintro e w' ⟨rfl, rfl⟩) | (go_at_call 31; refine (hDo.out).mono ?_; rintro e w' ⟨rfl, hD2, hK2⟩))
    go_ret
    exact ⟨rfl, hD2, hkk.out.trans hK2⟩
end Go.Proofs.Ytidofjjghbhaaaa
