/- The contracts of the program's fresh, New, Left, Read, Fuse. -/
import Derived.Test.YtidofjjghbhaaaaE3
namespace Go.Proofs.Ytidofjjghbhaaaa
open Go.RowKit
set_option linter.unusedVariables false

theorem Rows4.slice {P : Nat → Prop} {w : World} {b : Nat} {vs : Nat → Value} {B : Nat → List UInt8} (h : Rows4 P w b vs B) {k : Nat} (hk : k < 4) : ∃ p cap, vs k = .slice p (B k).length cap ∧ (B k).length ≤ cap ∧ (p = none → cap = 0) := by
  rcases (h.row k hk).2 with ⟨e, h0⟩ | ⟨g, cap, cur, e, _, _, hn, _⟩
  · exact ⟨none, 0, by rw [e, h0], by omega, fun _ => rfl⟩
  · exact ⟨_, cap, e, hn, fun h => by cases h⟩

theorem cell_later2 {w : World} {g i : Nat} {c : Array Value} {t : TypeId} {v : Value} (hg : g = w.heap.size) (hi : c[i]? = some v := by rfl) : (w.alloc (.cells c t)).cell? ⟨g, i, none⟩ = some v := by
  subst hg; rw [World.cell?_alloc_new, hi]

set_option maxHeartbeats 2000000 in
set_option maxRecDepth 100000 in
theorem left_any (P : Nat → Prop) (b : Nat) (m : DM) (vs : Nat → Value) (w : World) (h : IsDv P w b m vs) (ok : m.Ok) :
    Calls Try.prog 33 #[.pointer (some ⟨b, 0, none⟩)] w fun e w' => e = .returned (.int .i64 ((m.room - m.tot : Nat) : Int)) ∧ Below w.heap.size w w' := by
  have hb := obj_lt h.obj
  have hobj := h.obj
  obtain ⟨p0, c0, q0, _, _⟩ := h.rows.slice (k := 0) (by omega)
  obtain ⟨p1, c1, q1, _, _⟩ := h.rows.slice (k := 1) (by omega)
  obtain ⟨p2, c2, q2, _, _⟩ := h.rows.slice (k := 2) (by omega)
  obtain ⟨p3, c3, q3, _, _⟩ := h.rows.slice (k := 3) (by omega)
  have hr := ok.room
  have ht := ok.tot
  unfold DM.tot at ht ⊢
  unfold dArr at hobj
  rw [q0, q1, q2, q3] at hobj
  generalize (m.B 0).length = n0 at *
  generalize (m.B 1).length = n1 at *
  generalize (m.B 2).length = n2 at *
  generalize (m.B 3).length = n3 at *
  generalize m.room = room at *
  have k0 : w.cell? ⟨b, 0, none⟩ = some (.int .i64 (room : Nat)) := obj_cell hobj rfl
  have k1 : w.cell? ⟨b, 1, none⟩ = some (.slice p0 n0 c0) := obj_cell hobj rfl
  have k2 : w.cell? ⟨b, 2, none⟩ = some (.int .i64 (m.S 0 : Nat)) := obj_cell hobj rfl
  have k3 : w.cell? ⟨b, 3, none⟩ = some (.slice p1 n1 c1) := obj_cell hobj rfl
  have k4 : w.cell? ⟨b, 4, none⟩ = some (.int .i64 (m.S 1 : Nat)) := obj_cell hobj rfl
  have k5 : w.cell? ⟨b, 5, none⟩ = some (.slice p2 n2 c2) := obj_cell hobj rfl
  have k6 : w.cell? ⟨b, 6, none⟩ = some (.int .i64 (m.S 2 : Nat)) := obj_cell hobj rfl
  have k7 : w.cell? ⟨b, 7, none⟩ = some (.slice p3 n3 c3) := obj_cell hobj rfl
  have k8 : w.cell? ⟨b, 8, none⟩ = some (.int .i64 (m.S 3 : Nat)) := obj_cell hobj rfl
  clear hobj q0 q1 q2 q3 h ok
  generalize m.S 0 = s0 at *
  generalize m.S 1 = s1 at *
  generalize m.S 2 = s2 at *
  generalize m.S 3 = s3 at *
  have i0 : ∀ w, (Instr.index 70 (.agg #[.slice p0 n0 c0, .int .i64 (s0 : Nat), .slice p1 n1 c1, .int .i64 (s1 : Nat), .slice p2 n2 c2, .int .i64 (s2 : Nat), .slice p3 n3 c3, .int .i64 (s3 : Nat)]) (.int .i64 0)).run Try.prog w = .ok (.agg #[.slice p0 n0 c0, .int .i64 (s0 : Nat)]) w := fun _ => by kernel_rfl
  have i1 : ∀ w, (Instr.index 70 (.agg #[.slice p0 n0 c0, .int .i64 (s0 : Nat), .slice p1 n1 c1, .int .i64 (s1 : Nat), .slice p2 n2 c2, .int .i64 (s2 : Nat), .slice p3 n3 c3, .int .i64 (s3 : Nat)]) (.int .i64 1)).run Try.prog w = .ok (.agg #[.slice p1 n1 c1, .int .i64 (s1 : Nat)]) w := fun _ => by kernel_rfl
  have i2 : ∀ w, (Instr.index 70 (.agg #[.slice p0 n0 c0, .int .i64 (s0 : Nat), .slice p1 n1 c1, .int .i64 (s1 : Nat), .slice p2 n2 c2, .int .i64 (s2 : Nat), .slice p3 n3 c3, .int .i64 (s3 : Nat)]) (.int .i64 2)).run Try.prog w = .ok (.agg #[.slice p2 n2 c2, .int .i64 (s2 : Nat)]) w := fun _ => by kernel_rfl
  have i3 : ∀ w, (Instr.index 70 (.agg #[.slice p0 n0 c0, .int .i64 (s0 : Nat), .slice p1 n1 c1, .int .i64 (s1 : Nat), .slice p2 n2 c2, .int .i64 (s2 : Nat), .slice p3 n3 c3, .int .i64 (s3 : Nat)]) (.int .i64 3)).run Try.prog w = .ok (.agg #[.slice p3 n3 c3, .int .i64 (s3 : Nat)]) w := fun _ => by kernel_rfl
  go_enter Try.func33, Try.ntmps33
  go_wp2_with fail
  clear k0 k1 k2 k3 k4 k5 k6 k7 k8
  refine wp_loop_rounds 5 ?_
  rw [rounds_succ]
  go_wp2_with (first | (go_at_call 73; refine (csize_any (w.heap.size) 0 p0 n0 c0 _ (cell_later2 (by simp))).mono ?_; rintro e w' ⟨rfl, rfl⟩))
  clear i0
  rw [rounds_succ]
  go_wp2_with (first | (go_at_call 73; refine (csize_any (w.heap.size + 1) 0 p1 n1 c1 _ (cell_later2 (by simp))).mono ?_; rintro e w' ⟨rfl, rfl⟩))
  clear i1
  rw [rounds_succ]
  go_wp2_with (first | (go_at_call 73; refine (csize_any (w.heap.size + 1 + 1) 0 p2 n2 c2 _ (cell_later2 (by simp))).mono ?_; rintro e w' ⟨rfl, rfl⟩))
  clear i2
  rw [rounds_succ]
  go_wp2_with (first | (go_at_call 73; refine (csize_any (w.heap.size + 1 + 1 + 1) 0 p3 n3 c3 _ (cell_later2 (by simp))).mono ?_; rintro e w' ⟨rfl, rfl⟩))
  clear i3
  rw [rounds_succ]
  go_wp2_with fail
  go_ret
  refine ⟨?_, ((((Below.refl _ w).alloc (Nat.le_refl _) _).alloc (by simp) _).alloc (by simp; omega) _).alloc (by simp; omega) _⟩
  have e : ((room - (n0 + n1 + n2 + n3) : Nat) : Int) = (room : Int) - (n0 : Int) - (n1 : Int) - (n2 : Int) - (n3 : Int) := by omega
  rw [e]
  rfl

set_option maxHeartbeats 2000000 in
set_option maxRecDepth 100000 in
theorem read_any (P : Nat → Prop) (b : Nat) (m : DM) (vs : Nat → Value) (f : Int) (w : World) (h : IsDv P w b m vs) :
    Calls Try.prog 50 #[.pointer (some ⟨b, 0, none⟩), .int .i64 f] w fun e w' => e = .returned (.tuple #[if isFile f then sv (m.B f.toNat) else sv [], .int .i64 (if isFile f then 0 else 1)]) ∧ w = w' := by
  have hH := fun w => has_any f w
  cases hf : isFile f with
  | false =>
    rw [hf] at hH
    simp only [Bool.false_eq_true, if_false]
    replace hH := Lib.hid hH
    replace hf := Lib.hid hf
    go_enter Try.func50, Try.ntmps50
    go_wp2_with (first | (go_at_call 30; refine (hH.out _).mono ?_; rintro e w' ⟨rfl, rfl⟩))
    go_ret2
    exact ⟨rfl, rfl⟩
  | true =>
    obtain ⟨k, rfl, hk⟩ := isFile_nat hf
    rw [hf] at hH
    simp only [if_true, Int.toNat_natCast]
    have hc : w.cell? ⟨b, 1 + k * 2, none⟩ = some (vs k) := obj_cell h.obj (dArr_file _ _ _ _ _ k hk)
    have hT := told_any b (1 + k * 2) (vs k) (m.B k) w hc (h.rows.row k hk)
    replace hT := Lib.hid hT
    replace hH := Lib.hid hH
    replace hf := Lib.hid hf
    replace h := Lib.hid h
    clear hc
    have hkz : (k : Int) < 4 := by omega
    go_enter Try.func50, Try.ntmps50
    go_wp2_with (first | (go_at_call 30; refine (hH.out _).mono ?_; rintro e w' ⟨rfl, rfl⟩))
    refine hT.out.mono ?_
    rintro e w' ⟨rfl, rfl⟩
    go_wp2_with fail
    go_ret2
    exact ⟨rfl, rfl⟩

set_option maxHeartbeats 2000000 in
set_option maxRecDepth 100000 in
theorem fuse_any (P : Nat → Prop) (b : Nat) (m : DM) (vs : Nat → Value) (n : Int) (w : World) (h : IsDv P w b m vs) :
    Calls Try.prog 18 #[.pointer (some ⟨b, 0, none⟩), .int .i64 n] w fun e w' => e = .returned (.tuple #[]) ∧ IsDv P w' b (m.setf n) vs ∧ Kp (· = b) w w' := by
  have hc : w.cell? ⟨b, 10, none⟩ = some (.int .i64 m.fuse) := obj_cell h.obj rfl
  have hF := setFuse_any b 9 n _ w hc (obj_free h.obj 10)
  replace hF := Lib.hid hF
  replace h := Lib.hid h
  clear hc
  go_enter Try.func18, Try.ntmps18
  go_wp2_with (first | (go_at_call 51; refine (hF.out).mono ?_; rintro e w' ⟨rfl, rfl⟩))
  go_end0
  refine ⟨rfl, ⟨?_, h.out.own, h.out.rows.kept fun j _ _ hj => obj_other _ hj⟩, (Kp.refl _ _).setCell (F := (· = b)) (.inl rfl) _⟩
  exact obj_set h.out.obj 10 _

theorem zero50 : ∀ w, (zeroValue 65).run Try.prog w = .ok (.agg #[.bool false, .int .i64 0]) w := fun w => by kernel_rfl
set_option maxHeartbeats 2000000 in
set_option maxRecDepth 100000 in
theorem fresh_any (w : World) : Calls Try.prog 29 #[] w fun e w' => e = .returned (.agg #[.bool false, .int .i64 (-1)]) ∧ Below w.heap.size w w' := by
  have hb : ∀ w, (Instr.build 65 #[(1, Value.int IntKind.i64 (-1))]).run Try.prog w = .ok (.agg #[.bool false, .int .i64 (-1)]) w := fun w => by kernel_rfl
  go_enter Try.func29, Try.ntmps29
  go_wp2_with fail
  refine bodyPost_ret (results_cell_row rfl _ _ w.heap.size 65 #[.bool false, .int .i64 (-1)] (0, 0) _ rfl (heap_alloc_new w _) Try.underlying65 rfl (by kernel_rfl)) rfl ?_
  exact ⟨rfl, (Below.refl _ _).alloc (Nat.le_refl _) _⟩

set_option maxHeartbeats 2000000 in
set_option maxRecDepth 100000 in
theorem newBad_any (room : Int) (w : World) (h : room < 0 ∨ 16777216 < room) :
    Calls Try.prog 9 #[.int .i64 room] w fun e w' => e = .returned (.tuple #[.pointer none, .int .i64 1]) ∧ w = w' := by
  by_cases h0 : room < 0
  · go_enter Try.func9, Try.ntmps9
    go_wp2_with fail
    go_ret2
    exact ⟨rfl, rfl⟩
  · have h1 : 16777216 < room := by omega
    go_enter Try.func9, Try.ntmps9
    go_wp2_with fail
    go_ret2
    exact ⟨rfl, rfl⟩

theorem dNew (P : Nat → Prop) (w : World) (room : Nat) (hP : P w.heap.size) :
    IsDv P (w.alloc (.cells (dArr room (fun _ => .slice none 0 0) (fun _ => 0) false (-1)) 72)) w.heap.size (DM.new room) (fun _ => .slice none 0 0) :=
  ⟨heap_alloc_new w _, hP, ⟨fun k _ => Row.nil _, fun k _ g hg => absurd hg (by simp [Value.ownBlock]), fun j k _ _ _ g hg => absurd hg (by simp [Value.ownBlock])⟩⟩

set_option maxHeartbeats 2000000 in
set_option maxRecDepth 100000 in
theorem new_any (P : Nat → Prop) (room : Nat) (w : World) (h : room ≤ 16777216) (hP : ∀ j, w.heap.size ≤ j → P j) :
    Calls Try.prog 9 #[.int .i64 (room : Int)] w fun e w' => ∃ b, e = .returned (.tuple #[.pointer (some ⟨b, 0, none⟩), .int .i64 0]) ∧ w.heap.size ≤ b ∧ IsD P w' b (DM.new room) ∧ Below w.heap.size w w' := by
  have h0 : ¬ ((room : Int) < 0) := by omega
  have h1 : ¬ (16777216 < (room : Int)) := by omega
  have hb : ∀ w, (Instr.build 72 #[(0, Value.int IntKind.i64 (room : Int)), (2, Value.agg #[.bool false, .int .i64 (-1)])]).run Try.prog w = .ok (.agg (dArr room (fun _ => .slice none 0 0) (fun _ => 0) false (-1))) w := fun w => by kernel_rfl
  replace hP := Lib.hid hP
  go_enter Try.func9, Try.ntmps9
  go_wp2_with (first | (go_at_call 29; refine (fresh_any _).mono ?_; rintro e w' ⟨rfl, hb1⟩; replace hb1 := Lib.hid hb1))
  go_ret2
  have hs := hb1.out.size
  exact ⟨_, rfl, hs, ⟨_, dNew P w' room (hP.out _ hs)⟩, hb1.out.alloc hs _⟩
end Go.Proofs.Ytidofjjghbhaaaa
