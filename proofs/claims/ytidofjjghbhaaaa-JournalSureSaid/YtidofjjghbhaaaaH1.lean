/- The contracts of the reference's no, Burn, New, Left, Sync, Append. -/
import Derived.Test.YtidofjjghbhaaaaE9
namespace Go.Proofs.Ytidofjjghbhaaaa
open Go.RowKit
set_option linter.unusedVariables false

theorem rArr_set_B (m : DM) (k : Nat) (hk : k < 4) (l : List UInt8) : (rArr m).setIfInBounds k (sv l) = rArr (m.put (upd m.B k l) m.S) := by
  obtain rfl | rfl | rfl | rfl : k = 0 ∨ k = 1 ∨ k = 2 ∨ k = 3 := by omega
  all_goals rfl
theorem rArr_set_S (m : DM) (k : Nat) (hk : k < 4) (n : Nat) : (rArr m).setIfInBounds (4 + k) (.int .i64 (n : Nat)) = rArr (m.put m.B (upd m.S k n)) := by
  obtain rfl | rfl | rfl | rfl : k = 0 ∨ k = 1 ∨ k = 2 ∨ k = 3 := by omega
  all_goals rfl
theorem rArr_B (m : DM) (k : Nat) (hk : k < 4) : (rArr m)[k]? = some (sv (m.B k)) := by
  obtain rfl | rfl | rfl | rfl : k = 0 ∨ k = 1 ∨ k = 2 ∨ k = 3 := by omega
  all_goals rfl
theorem rArr_S (m : DM) (k : Nat) (hk : k < 4) : (rArr m)[4 + k]? = some (.int .i64 (m.S k : Nat)) := by
  obtain rfl | rfl | rfl | rfl : k = 0 ∨ k = 1 ∨ k = 2 ∨ k = 3 := by omega
  all_goals rfl
theorem IsR.setB {w : World} {b k : Nat} {m : DM} (h : IsR w b m) (hk : k < 4) (l : List UInt8) : IsR (w.setCell ⟨b, k, none⟩ (sv l)) b (m.put (upd m.B k l) m.S) := by
  have ho := obj_set h k (sv l)
  rw [rArr_set_B m k hk] at ho
  exact ho
theorem IsR.setS {w : World} {b k : Nat} {m : DM} (h : IsR w b m) (hk : k < 4) (n : Nat) : IsR (w.setCell ⟨b, 4 + k, none⟩ (.int .i64 (n : Nat))) b (m.put m.B (upd m.S k n)) := by
  have ho := obj_set h (4 + k) (.int .i64 (n : Nat))
  rw [rArr_set_S m k hk] at ho
  exact ho
theorem IsR.text {w : World} {b k : Nat} {m : DM} (h : IsR w b m) (hk : k < 4) : w.cell? ⟨b, k, none⟩ = some (sv (m.B k)) := obj_cell h (rArr_B m k hk)
theorem IsR.sure {w : World} {b k : Nat} {m : DM} (h : IsR w b m) (hk : k < 4) : w.cell? ⟨b, 4 + k, none⟩ = some (.int .i64 (m.S k : Nat)) := obj_cell h (rArr_S m k hk)
theorem kp_set {w : World} {b i : Nat} {v : Value} : Kp (· = b) w (w.setCell ⟨b, i, none⟩ v) := (Kp.refl _ _).setCell (F := (· = b)) (.inl rfl) _

set_option maxHeartbeats 1000000 in
set_option maxRecDepth 100000 in
theorem no_any (f : Int) (w : World) : Calls Try.prog 35 #[.int .i64 f] w fun e w' => e = .returned (.bool (!isFile f)) ∧ w = w' := by
  by_cases h1 : f < 0
  · have e : isFile f = false := by unfold isFile; simp; omega
    rw [e]
    go_enter Try.func35, Try.ntmps35
    go_wp2_with fail
    go_ret
    exact ⟨rfl, rfl⟩
  · by_cases h2 : 3 < f
    · have e : isFile f = false := by unfold isFile; simp; omega
      rw [e]
      go_enter Try.func35, Try.ntmps35
      go_wp2_with fail
      go_ret
      exact ⟨rfl, rfl⟩
    · have e : isFile f = true := by unfold isFile; simp; omega
      rw [e]
      go_enter Try.func35, Try.ntmps35
      go_wp2_with fail
      go_ret
      exact ⟨rfl, rfl⟩

set_option maxHeartbeats 1000000 in
set_option maxRecDepth 100000 in
theorem burnR_any (b : Nat) (m : DM) (w : World) (h : IsR w b m) (hf : -1 ≤ m.fuse ∧ m.fuse ≤ 9223372036854775807) :
    Calls Try.prog 36 #[.pointer (some ⟨b, 0, none⟩)] w fun e w' => e = .returned (.bool m.pow) ∧ IsR w' b m.burnt ∧ Kp (· = b) w w' := by
  obtain ⟨hf0, hf1⟩ := hf
  have c9 : w.cell? ⟨b, 9, none⟩ = some (.int .i64 m.fuse) := obj_cell h rfl
  have c10 : w.cell? ⟨b, 10, none⟩ = some (.bool m.down) := obj_cell h rfl
  have z := obj_free h
  cases hd : m.down with
  | true =>
    have hp : m.pow = false := by unfold DM.pow; rw [hd]; rfl
    rw [hp]
    have hfin : IsR (w.setCell ⟨b, 10, none⟩ (.bool true)) b m.burnt := by
      unfold DM.burnt; rw [hp]; exact obj_set h 10 _
    rw [hd] at c10
    replace h := Lib.hid h
    replace hfin := Lib.hid hfin
    replace hp := Lib.hid hp
    generalize m.fuse = fz at *
    clear hd
    go_enter Try.func36, Try.ntmps36
    go_wp2_with fail
    go_ret
    exact ⟨rfl, hfin.out, kp_set⟩
  | false =>
    rw [hd] at c10
    by_cases e0 : m.fuse = 0
    · have hp : m.pow = false := by unfold DM.pow; simp [e0]
      rw [hp]
      have hfin : IsR (w.setCell ⟨b, 10, none⟩ (.bool true)) b m.burnt := by
        unfold DM.burnt; rw [hp]; exact obj_set h 10 _
      rw [e0] at c9
      replace h := Lib.hid h
      replace hfin := Lib.hid hfin
      replace hp := Lib.hid hp
      clear hd e0
      go_enter Try.func36, Try.ntmps36
      go_wp2_with fail
      go_ret
      exact ⟨rfl, hfin.out, kp_set⟩
    · have hp : m.pow = true := by unfold DM.pow; simp [hd, e0]
      rw [hp]
      have hb0 : (m.fuse == 0) = false := by simpa using e0
      by_cases e1 : 0 < m.fuse
      · have hfin : IsR (w.setCell ⟨b, 9, none⟩ (.int .i64 (m.fuse - 1))) b m.burnt := by
          unfold DM.burnt; rw [hp, if_pos rfl, if_pos e1]; exact obj_set h 9 _
        have hw : IntKind.i64.wrap (m.fuse - 1) = m.fuse - 1 := by rw [IntKind.wrap_i64]; omega
        replace h := Lib.hid h
        replace hfin := Lib.hid hfin
        replace hp := Lib.hid hp
        generalize m.fuse = fz at *
        clear hd
        go_enter Try.func36, Try.ntmps36
        go_wp2_with fail
        go_ret
        exact ⟨rfl, hfin.out, kp_set⟩
      · have hfin : IsR w b m.burnt := by
          unfold DM.burnt; rw [hp, if_pos rfl, if_neg e1]; exact h
        replace h := Lib.hid h
        replace hfin := Lib.hid hfin
        replace hp := Lib.hid hp
        generalize m.fuse = fz at *
        clear hd
        go_enter Try.func36, Try.ntmps36
        go_wp2_with fail
        go_ret
        exact ⟨rfl, hfin.out, Kp.refl _ _⟩

set_option maxHeartbeats 1000000 in
set_option maxRecDepth 100000 in
theorem newRBad_any (room : Int) (w : World) (h : room < 0 ∨ 16777216 < room) :
    Calls Try.prog 10 #[.int .i64 room] w fun e w' => e = .returned (.tuple #[.pointer none, .int .i64 1]) ∧ w = w' := by
  by_cases h0 : room < 0
  · go_enter Try.func10, Try.ntmps10
    go_wp2_with fail
    go_ret2
    exact ⟨rfl, rfl⟩
  · have h1 : 16777216 < room := by omega
    go_enter Try.func10, Try.ntmps10
    go_wp2_with fail
    go_ret2
    exact ⟨rfl, rfl⟩

set_option maxHeartbeats 1000000 in
set_option maxRecDepth 100000 in
theorem newR_any (room : Nat) (w : World) (h : room ≤ 16777216) :
    Calls Try.prog 10 #[.int .i64 (room : Int)] w fun e w' => e = .returned (.tuple #[.pointer (some ⟨w.heap.size, 0, none⟩), .int .i64 0]) ∧ IsR w' w.heap.size (DM.new room) ∧ w' = w.alloc (.cells (rArr (DM.new room)) 48) := by
  have h0 : ¬ ((room : Int) < 0) := by omega
  have h1 : ¬ (16777216 < (room : Int)) := by omega
  have hb : ∀ w, (Instr.build 48 #[(2, Value.int IntKind.i64 (room : Int)), (3, Value.int IntKind.i64 (-1))]).run Try.prog w = .ok (.agg #[.string ⟨#[]⟩, .string ⟨#[]⟩, .string ⟨#[]⟩, .string ⟨#[]⟩, .int .i64 0, .int .i64 0, .int .i64 0, .int .i64 0, .int .i64 (room : Int), .int .i64 (-1), .bool false]) w := fun w => by kernel_rfl
  go_enter Try.func10, Try.ntmps10
  go_wp2_with fail
  go_ret2
  exact ⟨rfl, heap_alloc_new w _, rfl⟩

set_option maxHeartbeats 2000000 in
set_option maxRecDepth 100000 in
theorem leftR_any (b : Nat) (m : DM) (w : World) (h : IsR w b m) (ok : m.Ok) :
    Calls Try.prog 37 #[.pointer (some ⟨b, 0, none⟩)] w fun e w' => e = .returned (.int .i64 ((m.room - m.tot : Nat) : Int)) ∧ ∃ n, w' = w.drewN n := by
  have c0 := h.text (k := 0) (by omega)
  have c1 := h.text (k := 1) (by omega)
  have c2 := h.text (k := 2) (by omega)
  have c3 := h.text (k := 3) (by omega)
  have c8 : w.cell? ⟨b, 8, none⟩ = some (.int .i64 (m.room : Nat)) := obj_cell h rfl
  have hr := ok.room
  have ht := ok.tot
  have s0 : (⟨(m.B 0).toArray⟩ : ByteArray).size = (m.B 0).length := by rw [sz, bl_mk]
  have s1 : (⟨(m.B 1).toArray⟩ : ByteArray).size = (m.B 1).length := by rw [sz, bl_mk]
  have s2 : (⟨(m.B 2).toArray⟩ : ByteArray).size = (m.B 2).length := by rw [sz, bl_mk]
  have s3 : (⟨(m.B 3).toArray⟩ : ByteArray).size = (m.B 3).length := by rw [sz, bl_mk]
  unfold DM.tot at ht ⊢
  unfold sv at c0 c1 c2 c3
  rw [← s0, ← s1, ← s2, ← s3] at ht ⊢
  clear s0 s1 s2 s3
  generalize (⟨(m.B 0).toArray⟩ : ByteArray) = t0 at *
  generalize (⟨(m.B 1).toArray⟩ : ByteArray) = t1 at *
  generalize (⟨(m.B 2).toArray⟩ : ByteArray) = t2 at *
  generalize (⟨(m.B 3).toArray⟩ : ByteArray) = t3 at *
  generalize m.room = room at *
  have e : ((room - (t0.size + t1.size + t2.size + t3.size) : Nat) : Int) = (room : Int) - (t0.size : Int) - (t1.size : Int) - (t2.size : Int) - (t3.size : Int) := by omega
  rw [e]
  clear e h ok
  go_enter Try.func37, Try.ntmps37
  go_wp2_with fail
  go_quiet (fail)
  go_wp2_with fail
  go_ret
  exact ⟨rfl, _, rfl⟩
end Go.Proofs.Ytidofjjghbhaaaa
