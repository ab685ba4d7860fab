/- The contract of the program's Cut. -/
import Derived.Test.YtidofjjghbhaaaaE5
namespace Go.Proofs.Ytidofjjghbhaaaa
open Go.RowKit
set_option linter.unusedVariables false

/-- three boxes more -/
def box3 (w : World) (b : Nat) (f n : Value) (t : TypeId) : World := ((w.alloc (.cells #[.pointer (some ⟨b, 0, none⟩)] 26)).alloc (.cells #[f] 3)).alloc (.cells #[n] t)
theorem box3_0 (w : World) (b : Nat) (f n : Value) (t : TypeId) : (box3 w b f n t).cell? ⟨w.heap.size, 0, none⟩ = some (.pointer (some ⟨b, 0, none⟩)) := by
  unfold box3
  rw [World.cell?_alloc_lt _ _ _ (by simp; omega), World.cell?_alloc_lt _ _ _ (by simp), World.cell?_alloc_new]; rfl
theorem box3_1 (w : World) (b : Nat) (f n : Value) (t : TypeId) : (box3 w b f n t).cell? ⟨w.heap.size + 1, 0, none⟩ = some f := by
  unfold box3
  rw [World.cell?_alloc_lt _ _ _ (by simp)]; exact cell_later2 (by simp)
theorem box3_2 (w : World) (b : Nat) (f n : Value) (t : TypeId) : (box3 w b f n t).cell? ⟨w.heap.size + 2, 0, none⟩ = some n := by
  unfold box3; exact cell_later2 (by simp)
theorem box3_k (F : Nat → Prop) (w : World) (b : Nat) (f n : Value) (t : TypeId) : Kp F w (box3 w b f n t) := (((Kp.refl _ w).alloc _).alloc _).alloc _

/-- a file's row is another one of its own block, and another number is sure -/
theorem set_cut_dv {P : Nat → Prop} {w : World} {b k q c cap n : Nat} {p : Option Addr} {m : DM} {vs : Nat → Value} (h : IsDv P w b m vs) (hk : k < 4) (hv : vs k = .slice p n cap) (hq : q ≤ (m.B k).length) :
    IsDv P ((w.setCell ⟨b, 1 + k * 2, none⟩ (.slice p q cap)).setCell ⟨b, 1 + k * 2 + 1, none⟩ (.int .i64 (c : Nat))) b (m.put (upd m.B k ((m.B k).take q)) (upd m.S k c)) (upd vs k (.slice p q cap)) := by
  have hr := h.rows.row k hk
  rw [hv] at hr
  have hr2 : Row w (.slice p q cap) ((m.B k).take q) := hr.cut hq
  have hko : ∀ j, j ≠ b → ((w.setCell ⟨b, 1 + k * 2, none⟩ (.slice p q cap)).setCell ⟨b, 1 + k * 2 + 1, none⟩ (.int .i64 (c : Nat))).heap[j]? = w.heap[j]? := fun j hj => (obj_other _ hj).trans (obj_other _ hj)
  have hob : ∀ g, (Value.slice p q cap).ownBlock = some g → (vs k).ownBlock = some g := fun g hg => by rw [hv]; cases p <;> exact hg
  refine ⟨?_, h.own, h.rows.put hk (hr2.kept fun g hg => hko g (h.rows.perm k hk g (hob g hg)).2) (fun g hg => .inl (hob g hg)) (fun j hj _ g hg => hko g (h.rows.perm j hj g hg).2) (obj_lt h.obj)⟩
  have ho := obj_set (obj_set h.obj (1 + k * 2) (.slice p q cap)) (1 + k * 2 + 1) (.int .i64 (c : Nat))
  rw [dArr_set_file _ _ _ _ _ k hk, dArr_set_sure _ _ _ _ _ k hk] at ho
  exact ho

set_option maxHeartbeats 1000000 in
set_option maxRecDepth 100000 in
theorem cutC_any (P : Nat → Prop) (x y z b k q : Nat) (m : DM) (vs : Nat → Value) (w : World) (h : IsDv P w b m vs) (hx : w.cell? ⟨x, 0, none⟩ = some (.pointer (some ⟨b, 0, none⟩))) (hy : w.cell? ⟨y, 0, none⟩ = some (.int .i64 (k : Int)))
    (hz : w.cell? ⟨z, 0, none⟩ = some (.int .i64 (q : Int))) (hk : k < 4) (hq : q ≤ (m.B k).length) :
    Calls Try.prog 86 #[.pointer (some ⟨x, 0, none⟩), .pointer (some ⟨y, 0, none⟩), .pointer (some ⟨z, 0, none⟩)] w fun e w' => ∃ v, e = .returned v ∧ Ending.returned v = .returned (.int .i64 0) ∧ IsD P w' b (m.put (upd m.B k ((m.B k).take q)) (upd m.S k (min (m.S k) q))) ∧ Kp (· = b) w w' := by
  obtain ⟨p, cap, hv, hc, hp⟩ := h.rows.slice hk
  have h0 := h.file hk
  rw [hv] at h0
  have hM' := cutc_any b (1 + k * 2) p (m.B k).length cap q (m.S k) w.drew h0 (h.sure hk) (obj_free h.obj _) (obj_free h.obj _) hq hc hp
  have hkz : (k : Int) < 4 := by omega
  have kx : ∀ u v, (((w.setCell ⟨b, 1 + k * 2, none⟩ v).setCell ⟨b, 1 + k * 2 + 1, none⟩ u).drew).cell? ⟨x, 0, none⟩ = some (.pointer (some ⟨b, 0, none⟩)) := fun u v => by rw [World.cell?_drew, World.cell?_setCell_other _ _ _ _ (by simp), World.cell?_setCell_other _ _ _ _ (by simp)]; exact hx
  have ky : ∀ u v, (((w.setCell ⟨b, 1 + k * 2, none⟩ v).setCell ⟨b, 1 + k * 2 + 1, none⟩ u).drew).cell? ⟨y, 0, none⟩ = some (.int .i64 (k : Int)) := fun u v => by rw [World.cell?_drew, World.cell?_setCell_other _ _ _ _ (by simp), World.cell?_setCell_other _ _ _ _ (by simp)]; exact hy
  have kz : ∀ u v, (((w.setCell ⟨b, 1 + k * 2, none⟩ v).setCell ⟨b, 1 + k * 2 + 1, none⟩ u).drew).cell? ⟨z, 0, none⟩ = some (.int .i64 (q : Int)) := fun u v => by rw [World.cell?_drew, World.cell?_setCell_other _ _ _ _ (by simp), World.cell?_setCell_other _ _ _ _ (by simp)]; exact hz
  have hfin := (set_cut_dv (c := min (m.S k) q) h hk hv hq).drewN 1
  replace hfin := Lib.hid hfin
  clear h0 hv
  generalize (m.B k).length = n at *
  replace hM' := Lib.hid hM'
  replace h := Lib.hid h
  go_enter Try.func86, Try.ntmps86
  go_wp2_with fail
  go_region_held3 (fun w' => w'.cell? ⟨x, 0, none⟩ = some (.pointer (some ⟨b, 0, none⟩)) ∧ w'.cell? ⟨y, 0, none⟩ = some (.int .i64 (k : Int)) ∧ w'.cell? ⟨z, 0, none⟩ = some (.int .i64 (q : Int))) (first | exact ⟨hx, hy, hz⟩ | exact hHeld | exact ⟨kx _ _, ky _ _, kz _ _⟩)
    (first
      | (go_at_call 81; (with_reducible refine (hM'.out).mono ?_); rintro e w' ⟨rfl, rfl⟩))
  clear kx ky kz
  go_wp2_with fail
  go_ret
  exact ⟨_, rfl, rfl, ⟨_, hfin.out⟩, (((Kp.refl _ _).setCell (F := (· = b)) (.inl rfl) _).setCell (F := (· = b)) (.inl rfl) _).drewN 1⟩

set_option maxHeartbeats 2000000 in
set_option maxRecDepth 100000 in
theorem cut_any (P : Nat → Prop) (b : Nat) (m : DM) (f n : Int) (w : World) (h : IsD P w b m) (ok : m.Ok) (hP : ∀ j, w.heap.size ≤ j → P j) :
    Calls Try.prog 67 #[.pointer (some ⟨b, 0, none⟩), .int .i64 f, .int .i64 n] w fun e w' => e = .returned (.int .i64 (m.cut f n).1) ∧ IsD P w' b (m.cut f n).2 ∧ Kp P w w' := by
  obtain ⟨vs, h⟩ := h
  have hb := obj_lt h.obj
  have hH := fun w => (has_any f w).mono fun _ _ ⟨h1, h2⟩ => And.intro h1 h2.symm
  have hkk := box3_k P w b (.int .i64 f) (.int .i64 n) 3
  have hD := h.kept (box3_k (fun _ => False) w b (.int .i64 f) (.int .i64 n) 3) (fun _ _ _ h => h)
  have c0 := box3_0 w b (.int .i64 f) (.int .i64 n) 3
  have c1 := box3_1 w b (.int .i64 f) (.int .i64 n) 3
  have c2 := box3_2 w b (.int .i64 f) (.int .i64 n) 3
  cases hf : isFile f with
  | false =>
    have e1 : m.cut f n = (1, m) := by unfold DM.cut DM.cutOk; rw [hf]; rfl
    rw [e1]
    rw [hf] at hH
    replace hH := Lib.hid hH
    replace h := Lib.hid h
    replace hD := Lib.hid hD
    replace hkk := Lib.hid hkk
    clear e1 hf c0 c1 c2
    go_enter Try.func67, Try.ntmps67
    go_wp2_with fail
    go_quiet (first | (go_at_call 30; refine Calls.quiet_of_same (hH.out _)))
    go_wp2_with fail
    go_ret
    exact ⟨rfl, ⟨_, hD.out.drewN _⟩, hkk.out.drewN _⟩
  | true =>
    obtain ⟨k, rfl, hk⟩ := isFile_nat hf
    rw [hf] at hH
    replace hH := Lib.hid hH
    by_cases hn0 : n < 0
    · have e1 : m.cut (k : Int) n = (1, m) := by unfold DM.cut DM.cutOk; rw [hf, decide_eq_false (by omega : ¬ 0 ≤ n)]; rfl
      rw [e1]
      have hd0 : decide (n < 0) = true := decide_eq_true hn0
      replace h := Lib.hid h
      replace hD := Lib.hid hD
      replace hkk := Lib.hid hkk
      clear e1 hf c0 c1 c2
      go_enter Try.func67, Try.ntmps67
      go_wp2_with fail
      go_quiet (first | (go_at_call 30; refine Calls.quiet_of_same (hH.out _)))
      go_wp2_with fail
      go_ret
      exact ⟨rfl, ⟨_, hD.out.drewN _⟩, hkk.out.drewN _⟩
    · have hd0 : decide (n < 0) = false := decide_eq_false hn0
      obtain ⟨q, rfl⟩ : ∃ q : Nat, n = (q : Int) := ⟨n.toNat, by omega⟩
      have hkz : (k : Int) < 4 := by omega
      obtain ⟨p, cap, hv, _, _⟩ := h.rows.slice hk
      have hS := fun i => (csize_any b (1 + k * 2) p (m.B k).length cap ((box3 w b (.int .i64 (k : Int)) (.int .i64 (q : Int)) 3).drewN i) (by have h1 := hD.file hk; rw [hv] at h1; exact h1)).mono fun _ _ ⟨h1, h2⟩ => And.intro h1 h2.symm
      replace hS := Lib.hid hS
      by_cases hq : (m.B k).length < q
      · have e1 : m.cut (k : Int) (q : Int) = (1, m) := by
          unfold DM.cut DM.cutOk
          rw [hf, decide_eq_true (by omega : (0 : Int) ≤ (q : Int)), decide_eq_false (by simp; omega : ¬ (q : Int) ≤ ((m.B (k : Int).toNat).length : Int))]; rfl
        rw [e1]
        have hd1 : decide (((m.B k).length : Int) < (q : Int)) = true := decide_eq_true (by omega)
        replace h := Lib.hid h
        replace hD := Lib.hid hD
        replace hkk := Lib.hid hkk
        clear e1 hf c0 c1 c2 hv
        generalize (m.B k).length = len at *
        go_enter Try.func67, Try.ntmps67
        go_wp2_with fail
        go_quiet (first | (go_at_call 30; refine Calls.quiet_of_same (hH.out _)) | (go_at_call 73; refine Calls.quiet_of_same (hS.out _)))
        go_wp2_with fail
        go_ret
        exact ⟨rfl, ⟨_, hD.out.drewN _⟩, hkk.out.drewN _⟩
      · have hd1 : decide (((m.B k).length : Int) < (q : Int)) = false := decide_eq_false (by omega)
        have ec : m.cutOk (k : Int) (q : Int) = true := by
          unfold DM.cutOk
          rw [hf, decide_eq_true (by omega : (0 : Int) ≤ (q : Int)), decide_eq_true (by simp; omega : (q : Int) ≤ ((m.B (k : Int).toNat).length : Int))]; rfl
        have hDo := fun i => do_dv P b m vs 86 #[.pointer (some ⟨w.heap.size, 0, none⟩), .pointer (some ⟨w.heap.size + 1, 0, none⟩), .pointer (some ⟨w.heap.size + 2, 0, none⟩)] _ (hD.drewN i) ok (enter36 _) (m.cut (k : Int) (q : Int))
          (fun hp => by unfold DM.cut; rw [ec, hp]; rfl)
          (fun hp w1 hD1 hK1 => by
            have e1 : m.cut (k : Int) (q : Int) = (0, m.burnt.put (upd m.burnt.B k ((m.burnt.B k).take q)) (upd m.burnt.S k (min (m.burnt.S k) q))) := by unfold DM.cut; rw [ec, hp, m.burnt_B, m.burnt_S]; rfl
            rw [e1]
            refine (cutC_any P w.heap.size (w.heap.size + 1) (w.heap.size + 2) b k q m.burnt vs w1 hD1 ?_ ?_ ?_ hk (by rw [m.burnt_B]; omega)).mono ?_
            · exact hK1.cell c0 (by show ¬ (w.heap.size = b); omega)
            · exact hK1.cell c1 (by show ¬ (w.heap.size + 1 = b); omega)
            · exact hK1.cell c2 (by show ¬ (w.heap.size + 2 = b); omega)
            · rintro e w' ⟨v, rfl, hv, hD2, hK2⟩
              exact ⟨v, rfl, hv, hD2, hK2.mono fun j _ e => by subst e; exact h.own⟩)
        replace h := Lib.hid h
        replace hD := Lib.hid hD
        replace hkk := Lib.hid hkk
        replace hDo := Lib.hid hDo
        replace ec := Lib.hid ec
        clear hf c0 c1 c2 hv
        generalize hlen : (m.B k).length = len at *
        replace hlen := Lib.hid hlen
        go_enter Try.func67, Try.ntmps67
        go_wp2_with fail
        go_quiet (first | (go_at_call 30; refine Calls.quiet_of_same (hH.out _)) | (go_at_call 73; refine Calls.quiet_of_same (hS.out _)))
        go_wp2_with (first | (go_at_call 31; refine (hDo.out _).mono ?_; rintro e w' ⟨rfl, hD2, hK2⟩))
        go_ret
        exact ⟨rfl, hD2, (hkk.out.drewN _).trans hK2⟩
end Go.Proofs.Ytidofjjghbhaaaa
