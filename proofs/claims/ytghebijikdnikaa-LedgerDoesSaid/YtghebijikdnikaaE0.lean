/- Plain states of a disk: four files of bytes, how many of each are sure, the room, the fuse, whether the power is gone; what each call makes of it. No Go text. -/
import Derived.RowKit
set_option linter.unusedVariables false
namespace Go.Proofs.Ytghebijikdnikaa

/-- f, but x at k -/
def upd {α : Type} (f : Nat → α) (k : Nat) (x : α) : Nat → α := fun j => if j = k then x else f j
theorem upd_same {α : Type} (f : Nat → α) (k : Nat) (x : α) : upd f k x k = x := if_pos rfl
theorem upd_other {α : Type} (f : Nat → α) {k j : Nat} (x : α) (h : j ≠ k) : upd f k x j = f j := if_neg h
theorem upd_self {α : Type} (f : Nat → α) (k : Nat) : upd f k (f k) = f := by
  funext j; unfold upd; split
  · rename_i h; rw [h]
  · rfl

structure DM where
  B : Nat → List UInt8
  S : Nat → Nat
  room : Nat
  fuse : Int
  down : Bool

/-- other files -/
def DM.put (m : DM) (B : Nat → List UInt8) (S : Nat → Nat) : DM := ⟨B, S, m.room, m.fuse, m.down⟩
def DM.tot (m : DM) : Nat := (m.B 0).length + (m.B 1).length + (m.B 2).length + (m.B 3).length

structure DM.Ok (m : DM) : Prop where
  room : m.room ≤ 16777216
  tot : m.tot ≤ m.room
  sure : ∀ k, k < 4 → m.S k ≤ (m.B k).length
  fuse : -1 ≤ m.fuse ∧ m.fuse ≤ 9223372036854775807

theorem DM.Ok.len {m : DM} (h : m.Ok) {k : Nat} (hk : k < 4) : (m.B k).length ≤ m.tot := by
  unfold DM.tot
  obtain rfl | rfl | rfl | rfl : k = 0 ∨ k = 1 ∨ k = 2 ∨ k = 3 := by omega
  all_goals omega
theorem DM.Ok.small {m : DM} (h : m.Ok) {k : Nat} (hk : k < 4) : (m.B k).length ≤ 16777216 := by
  have := h.len hk; have := h.tot; have := h.room; omega

/-- a new disk -/
def DM.new (room : Nat) : DM := ⟨fun _ => [], fun _ => 0, room, -1, false⟩
theorem DM.new_ok (room : Nat) (h : room ≤ 16777216) : (DM.new room).Ok := ⟨h, by simp [DM.tot, DM.new], fun k _ => by simp [DM.new], by simp [DM.new], by simp [DM.new]⟩

/-- is there power? -/
def DM.pow (m : DM) : Bool := !m.down && decide (m.fuse ≠ 0)
/-- behind burning -/
def DM.burnt (m : DM) : DM := if m.pow then { m with fuse := if 0 < m.fuse then m.fuse - 1 else m.fuse } else { m with down := true }
theorem DM.burnt_B (m : DM) : m.burnt.B = m.B := by unfold DM.burnt; split <;> rfl
theorem DM.burnt_S (m : DM) : m.burnt.S = m.S := by unfold DM.burnt; split <;> rfl
theorem DM.burnt_room (m : DM) : m.burnt.room = m.room := by unfold DM.burnt; split <;> rfl
theorem DM.burnt_tot (m : DM) : m.burnt.tot = m.tot := by unfold DM.tot; rw [m.burnt_B]
theorem DM.Ok.burnt {m : DM} (h : m.Ok) : m.burnt.Ok := by
  refine ⟨by rw [m.burnt_room]; exact h.room, by rw [m.burnt_tot, m.burnt_room]; exact h.tot, fun k hk => by rw [m.burnt_S, m.burnt_B]; exact h.sure k hk, ?_⟩
  have := h.fuse
  unfold DM.burnt
  split
  · show -1 ≤ (if 0 < m.fuse then m.fuse - 1 else m.fuse) ∧ (if 0 < m.fuse then m.fuse - 1 else m.fuse) ≤ _
    split <;> omega
  · exact h.fuse

/-- is there such a file? -/
def isFile (f : Int) : Bool := decide (0 ≤ f) && decide (f < 4)
theorem isFile_nat {f : Int} (h : isFile f = true) : ∃ k : Nat, f = (k : Int) ∧ k < 4 := by
  unfold isFile at h
  simp at h
  exact ⟨f.toNat, by omega, by omega⟩
theorem isFile_no {f : Int} (h : isFile f = false) : f < 0 ∨ 4 ≤ f := by
  unfold isFile at h
  simp at h
  omega
theorem isFile_of (k : Nat) (h : k < 4) : isFile (k : Int) = true := by unfold isFile; simp; omega

def DM.app (m : DM) (f : Int) (l : List UInt8) : Int × DM :=
  if isFile f then
    if m.pow then
      if m.room - m.tot < l.length then (4, m.burnt) else (0, m.burnt.put (upd m.B f.toNat (m.B f.toNat ++ l)) m.S)
    else (9, m.burnt)
  else (1, m)
def DM.syn (m : DM) (f : Int) : Int × DM :=
  if isFile f then
    if m.pow then (0, m.burnt.put m.B (upd m.S f.toNat (m.B f.toNat).length)) else (9, m.burnt)
  else (1, m)
def DM.cutOk (m : DM) (f n : Int) : Bool := isFile f && (decide (0 ≤ n) && decide (n ≤ ((m.B f.toNat).length : Int)))
def DM.cut (m : DM) (f n : Int) : Int × DM :=
  if m.cutOk f n then
    if m.pow then (0, m.burnt.put (upd m.B f.toNat ((m.B f.toNat).take n.toNat)) (upd m.S f.toNat (min (m.S f.toNat) n.toNat))) else (9, m.burnt)
  else (1, m)
def DM.mov (m : DM) (f t : Int) : Int × DM :=
  if isFile f && isFile t then
    if m.pow then (0, m.burnt.put (upd (upd m.B f.toNat []) t.toNat (m.B f.toNat)) (upd (upd m.S f.toNat 0) t.toNat (m.S f.toNat))) else (9, m.burnt)
  else (1, m)
def DM.setf (m : DM) (n : Int) : DM := { m with fuse := max n (-1) }
/-- how many bytes of a file a crash leaves -/
def DM.left (m : DM) (k : Nat) (x : Int) : Nat := m.S k + min (max x 0).toNat ((m.B k).length - m.S k)
def DM.lose (m : DM) (k : Nat) (x : Int) : DM := m.put (upd m.B k ((m.B k).take (m.left k x))) (upd m.S k (m.left k x))
def DM.crash (m : DM) (x0 x1 x2 x3 : Int) : DM := { (((m.lose 0 x0).lose 1 x1).lose 2 x2).lose 3 x3 with fuse := -1, down := false }

theorem tot_upd (m m' : DM) (k : Nat) (hk : k < 4) (l : List UInt8) (hB : m'.B = upd m.B k l) : m'.tot + (m.B k).length = m.tot + l.length := by
  unfold DM.tot
  rw [hB]
  obtain rfl | rfl | rfl | rfl : k = 0 ∨ k = 1 ∨ k = 2 ∨ k = 3 := by omega
  all_goals (simp [upd]; omega)

theorem DM.left_le {m : DM} (h : m.Ok) {k : Nat} (hk : k < 4) (x : Int) : m.left k x ≤ (m.B k).length := by
  have := h.sure k hk
  unfold DM.left
  omega
theorem DM.left_ge (m : DM) (k : Nat) (x : Int) : m.S k ≤ m.left k x := by unfold DM.left; omega
theorem DM.Ok.lose {m : DM} (h : m.Ok) {k : Nat} (hk : k < 4) (x : Int) : (m.lose k x).Ok := by
  have hl := m.left_le h hk x
  have ht := tot_upd m (m.lose k x) k hk _ rfl
  rw [List.length_take] at ht
  refine ⟨h.room, ?_, fun j hj => ?_, h.fuse⟩
  · have := h.tot; show _ ≤ m.room; omega
  · show upd m.S k _ j ≤ (upd m.B k _ j).length
    by_cases e : j = k
    · subst e; rw [upd_same, upd_same, List.length_take]; omega
    · rw [upd_other _ _ e, upd_other _ _ e]; exact h.sure j hj
theorem DM.Ok.crash {m : DM} (h : m.Ok) (x0 x1 x2 x3 : Int) : (m.crash x0 x1 x2 x3).Ok := by
  have h4 := (((h.lose (k := 0) (by omega) x0).lose (k := 1) (by omega) x1).lose (k := 2) (by omega) x2).lose (k := 3) (by omega) x3
  exact ⟨h4.room, h4.tot, h4.sure, by show -1 ≤ (-1 : Int) ∧ (-1 : Int) ≤ 9223372036854775807; omega⟩
theorem DM.Ok.setf {m : DM} (h : m.Ok) (n : Int) (hn : n ≤ 9223372036854775807) : (m.setf n).Ok :=
  ⟨h.room, h.tot, h.sure, by show -1 ≤ max n (-1) ∧ max n (-1) ≤ _; omega⟩
theorem DM.put_tot (m : DM) (k : Nat) (hk : k < 4) (l : List UInt8) (S : Nat → Nat) : (m.put (upd m.B k l) S).tot + (m.B k).length = m.tot + l.length := tot_upd m _ k hk l rfl
theorem DM.Ok.put {m : DM} (h : m.Ok) (B : Nat → List UInt8) (S : Nat → Nat) (ht : (m.put B S).tot ≤ m.room) (hs : ∀ k, k < 4 → S k ≤ (B k).length) : (m.put B S).Ok := ⟨h.room, ht, hs, h.fuse⟩
theorem tot_put (m : DM) (B : Nat → List UInt8) (S : Nat → Nat) : (m.burnt.put B S).tot = (m.put B S).tot := rfl
theorem DM.Ok.app {m : DM} (h : m.Ok) (f : Int) (l : List UInt8) : (m.app f l).2.Ok := by
  have hb := h.burnt
  unfold DM.app
  split
  · rename_i hf
    obtain ⟨k, rfl, hk⟩ := isFile_nat hf
    simp only [Int.toNat_natCast]
    split
    · split
      · exact hb
      · have ht := m.put_tot k hk (m.B k ++ l) m.S
        rw [List.length_append] at ht
        have h1 := h.tot
        refine hb.put _ _ (by rw [tot_put, m.burnt_room]; omega) fun j hj => ?_
        have := h.sure j hj
        by_cases e : j = k
        · subst e; rw [upd_same, List.length_append]; omega
        · rw [upd_other _ _ e]; exact this
    · exact hb
  · exact h
theorem DM.Ok.syn {m : DM} (h : m.Ok) (f : Int) : (m.syn f).2.Ok := by
  have hb := h.burnt
  unfold DM.syn
  split
  · rename_i hf
    obtain ⟨k, rfl, hk⟩ := isFile_nat hf
    simp only [Int.toNat_natCast]
    split
    · refine hb.put _ _ (by rw [tot_put, m.burnt_room]; exact h.tot) fun j hj => ?_
      have := h.sure j hj
      by_cases e : j = k
      · subst e; rw [upd_same]; omega
      · rw [upd_other _ _ e]; exact this
    · exact hb
  · exact h
theorem DM.Ok.cut {m : DM} (h : m.Ok) (f n : Int) : (m.cut f n).2.Ok := by
  have hb := h.burnt
  unfold DM.cut
  split
  · rename_i hf
    unfold DM.cutOk at hf
    simp only [Bool.and_eq_true, decide_eq_true_eq] at hf
    obtain ⟨hf, hn0, hn⟩ := hf
    obtain ⟨k, rfl, hk⟩ := isFile_nat hf
    simp only [Int.toNat_natCast] at hn ⊢
    split
    · have ht := m.put_tot k hk ((m.B k).take n.toNat) (upd m.S k (min (m.S k) n.toNat))
      rw [List.length_take] at ht
      have h1 := h.tot
      refine hb.put _ _ (by rw [tot_put, m.burnt_room]; omega) fun j hj => ?_
      have := h.sure j hj
      by_cases e : j = k
      · subst e; rw [upd_same, upd_same, List.length_take]; omega
      · rw [upd_other _ _ e, upd_other _ _ e]; exact this
    · exact hb
  · exact h
theorem DM.Ok.mov {m : DM} (h : m.Ok) (f t : Int) : (m.mov f t).2.Ok := by
  have hb := h.burnt
  unfold DM.mov
  split
  · rename_i hf
    simp only [Bool.and_eq_true] at hf
    obtain ⟨hf, hg⟩ := hf
    obtain ⟨k, rfl, hk⟩ := isFile_nat hf
    obtain ⟨j, rfl, hj⟩ := isFile_nat hg
    simp only [Int.toNat_natCast]
    split
    · have h1 := h.tot
      have t1 := m.put_tot k hk [] (upd m.S k 0)
      have t2 := (m.put (upd m.B k []) (upd m.S k 0)).put_tot j hj (m.B k) (upd (upd m.S k 0) j (m.S k))
      have t3 : ((m.put (upd m.B k []) (upd m.S k 0)).put (upd (upd m.B k []) j (m.B k)) (upd (upd m.S k 0) j (m.S k))).tot = (m.put (upd (upd m.B k []) j (m.B k)) (upd (upd m.S k 0) j (m.S k))).tot := rfl
      have t4 : ((m.put (upd m.B k []) (upd m.S k 0)).put (upd (m.put (upd m.B k []) (upd m.S k 0)).B j (m.B k)) (upd (upd m.S k 0) j (m.S k))).tot = ((m.put (upd m.B k []) (upd m.S k 0)).put (upd (upd m.B k []) j (m.B k)) (upd (upd m.S k 0) j (m.S k))).tot := rfl
      rw [t4, t3] at t2
      simp only [List.length_nil] at t1
      refine hb.put _ _ (by rw [tot_put, m.burnt_room]; omega) fun i hi => ?_
      by_cases e : i = j
      · subst e; rw [upd_same, upd_same]; exact h.sure k hk
      · rw [upd_other _ _ e, upd_other _ _ e]
        by_cases e : i = k
        · subst e; rw [upd_same, upd_same]; simp
        · rw [upd_other _ _ e, upd_other _ _ e]; exact h.sure i hi
    · exact hb
  · exact h
end Go.Proofs.Ytghebijikdnikaa
