/- Tables of currencies in memory; the contract of the law's large.
  The contracts of table's misspelt, outOfBounds, isBase and Find. -/
import Derived.Test.YtljclgphgojphaaB2
import Derived.OwnWalk
import Derived.Laws.RangeAny
import Derived.Deep.QuietTactic
import Derived.BigQuiet
namespace Go.Proofs.Ytljclgphgojphaa
open Go.RowKit
set_option linter.unusedVariables false

/-- a currency -/
structure Cur where
  code : ByteArray
  rate : Int
  cut : Int
def Cur.zero : Cur := ⟨⟨#[]⟩, 0, 0⟩
/-- the currency of a place -/
def cAt (cs : List Cur) (i : Nat) : Cur := cs.getD i Cur.zero
def CurOk (c : Cur) : Prop := c.code.size ≤ 140737488351232 ∧ Amt c.rate ∧ Amt c.cut
/-- a table, in a world -/
def Tab (w : World) (p : Option Addr) (len : Nat) (cs : List Cur) : Prop :=
  cs.length = len ∧ (∀ i, CurOk (cAt cs i)) ∧ len ≤ 140737488351232 ∧
    (len = 0 ∨ ∃ b off, p = some ⟨b, off, none⟩ ∧ b < w.heap.size ∧ ∀ i, i < len →
      w.cell? ⟨b, off + i * 3, none⟩ = some (.string (cAt cs i).code) ∧ w.cell? ⟨b, off + i * 3 + 1, none⟩ = some (.int .i64 (cAt cs i).rate) ∧
        w.cell? ⟨b, off + i * 3 + 2, none⟩ = some (.int .i64 (cAt cs i).cut))
theorem Tab.kept {w w' : World} {p : Option Addr} {len : Nat} {cs : List Cur} (h : Tab w p len cs) (hb : Below w.heap.size w w') : Tab w' p len cs := by
  obtain ⟨h1, h2, h3, h4⟩ := h
  refine ⟨h1, h2, h3, ?_⟩
  rcases h4 with h4 | ⟨b, off, e, hlt, hc⟩
  · exact .inl h4
  · refine .inr ⟨b, off, e, Nat.lt_of_lt_of_le hlt hb.size, fun i hi => ?_⟩
    obtain ⟨c0, c1, c2⟩ := hc i hi
    exact ⟨(hb.cell (p := ⟨b, off + i * 3, none⟩) hlt).trans c0, (hb.cell (p := ⟨b, off + i * 3 + 1, none⟩) hlt).trans c1, (hb.cell (p := ⟨b, off + i * 3 + 2, none⟩) hlt).trans c2⟩

theorem cAt_mem {cs : List Cur} {i : Nat} (h : i < cs.length) : cAt cs i ∈ cs := by
  unfold cAt; rw [List.getD_eq_getElem?_getD, List.getElem?_eq_getElem h]; exact List.getElem_mem h
theorem take_cur (cs : List Cur) (k : Nat) (h : k < cs.length) : cs.take (k + 1) = cs.take k ++ [cAt cs k] := by
  rw [List.take_succ_eq_append_getElem h]; simp [cAt, List.getD, h]

/-- how many letters there are -/
def szT (cs : List Cur) : Nat := (cs.map fun c => c.code.size).sum
def largeB (cs : List Cur) : Bool := decide (1000 < szT cs) || decide (20 < cs.length)
theorem sz_app (a b : List Cur) : szT (a ++ b) = szT a + szT b := by simp [szT]
theorem sz_take (cs : List Cur) (k : Nat) (h : k < cs.length) : szT (cs.take (k + 1)) = szT (cs.take k) + (cAt cs k).code.size := by
  rw [take_cur cs k h, sz_app]; simp [szT]
theorem sz_le (cs : List Cur) (k : Nat) : szT (cs.take k) ≤ szT cs := by
  have := sz_app (cs.take k) (cs.drop k)
  rw [List.take_append_drop] at this
  omega

theorem large_no {cs : List Cur} (h : largeB cs = false) : szT cs ≤ 1000 ∧ cs.length ≤ 20 := by
  unfold largeB at h
  simp at h
  exact h
end Go.Proofs.Ytljclgphgojphaa
namespace Go.Proofs.Ytljclgphgojphaa
open Go.RowKit
set_option linter.unusedVariables false

def Cur.val (c : Cur) : Value := .agg #[.string c.code, .int .i64 c.rate, .int .i64 c.cut]
/-- a byte is a capital letter -/
def capB (s : ByteArray) (i : Nat) : Prop := ∃ h : i < s.size, 65 ≤ (s[i]'h).toNat ∧ (s[i]'h).toNat ≤ 90
/-- three capital letters -/
def Cap3 (s : ByteArray) : Prop := s.size = 3 ∧ ∀ i, i < 3 → capB s i
open Classical in
/-- not three capital letters -/
noncomputable def missB (s : ByteArray) : Bool := decide (¬ Cap3 s)

theorem dec_cap (s : ByteArray) (pos : Nat) (h : pos < s.size) (hc : capB s pos) : Utf8.decode s pos = ((s[pos]'h).toNat, 1) := decode_ascii s pos h (by obtain ⟨_, h1, h2⟩ := hc; omega)
theorem dec_not (s : ByteArray) (pos : Nat) (h : pos < s.size) (hc : ¬ capB s pos) : (Utf8.decode s pos).1 < 65 ∨ 90 < (Utf8.decode s pos).1 := by
  by_cases ha : (s[pos]'h).toNat < 128
  · rw [decode_ascii s pos h ha]
    have : ¬ (65 ≤ (s[pos]'h).toNat ∧ (s[pos]'h).toNat ≤ 90) := fun k => hc ⟨h, k⟩
    simp only; omega
  · have := (decode_high s pos h (by omega)).1
    omega

set_option maxHeartbeats 1000000 in
set_option maxRecDepth 100000 in
theorem misspelt_any (c : Cur) (w : World) :
    Calls Try.prog 70 #[.agg #[.string c.code, .int .i64 c.rate, .int .i64 c.cut]] w fun e w' => e = .returned (.bool (missB c.code)) ∧ Below w.heap.size w w' := by
  obtain ⟨s, r, h⟩ := c
  simp only
  by_cases hs : s.size = 3
  · have hsz : ((s.size : Int) != 3) = false := by simp; omega
    have hsn : s.size ≤ 3 := by omega
    have hsg : 3 ≤ s.size := by omega
    clear hs
    go_enter Try.func70, Try.ntmps70
    go_wp2_with fail
    go_loopw [4] (fun _ wr => ∃ (pos : Nat), wr = (w.alloc (.cells #[.string s, .int .i64 r, .int .i64 h] 42)).iter s pos ∧ pos ≤ 3 ∧ ∀ i, i < pos → capB s i) (fun _ wr => 3 - wr.iterPos (w.heap.size + 1))
    case atStart => exact ⟨0, rfl, by omega, fun i hi => by omega⟩
    case round =>
      obtain ⟨pos, rfl, hp3, hall⟩ := hrel
      replace hall := Lib.hid hall
      have hbel : Below w.heap.size w ((w.alloc (.cells #[.string s, .int .i64 r, .int .i64 h] 42)).iter s pos) := ((Below.refl _ _).alloc (Nat.le_refl _) _).alloc (by simp) _
      replace hbel := Lib.hid hbel
      by_cases hp : pos < s.size
      · have hnx : ∀ ty, (Instr.next (.pointer (some ⟨w.heap.size + 1, 0, none⟩)) true ty).run Try.prog ((w.alloc (.cells #[.string s, .int .i64 r, .int .i64 h] 42)).iter s pos) = .ok (.tuple #[.bool true, .int .i64 pos, .int .i32 (Utf8.decode s pos).1]) ((w.alloc (.cells #[.string s, .int .i64 r, .int .i64 h] 42)).iter s (pos + (Utf8.decode s pos).2)) := fun ty => by
          have := run_next_any (P := Try.prog) (w.alloc (.cells #[.string s, .int .i64 r, .int .i64 h] 42)) s pos ty hp
          rw [World.size_alloc] at this
          exact this
        by_cases hc : capB s pos
        · rw [dec_cap s pos hp hc] at hnx
          have hb1 : 65 ≤ (s[pos]'hp).toNat ∧ (s[pos]'hp).toNat ≤ 90 := by obtain ⟨_, h⟩ := hc; exact h
          obtain ⟨hb1, hb2⟩ := hb1
          generalize (s[pos]'hp).toNat = u at *
          replace hc := Lib.hid hc
          simp only at hnx
          go_wp2_with fail
          go_roundw
          case rel =>
            refine ⟨pos + 1, rfl, by omega, fun i hi => ?_⟩
            by_cases e : i = pos
            · subst e; exact hc.out
            · exact hall.out i (by omega)
          case measure =>
            have e1 := World.iterPos_iter (w.alloc (.cells #[.string s, .int .i64 r, .int .i64 h] 42)) s
            rw [World.size_alloc] at e1
            rw [e1, e1]; omega
        · have hfin : missB s = true := by unfold missB; simp; exact fun h => absurd (h.2 pos (by omega)) hc
          have hd := dec_not s pos hp hc
          generalize (Utf8.decode s pos) = u at *
          obtain ⟨u, n⟩ := u
          simp only at hnx hd
          have hbel : Below w.heap.size w ((w.alloc (.cells #[.string s, .int .i64 r, .int .i64 h] 42)).iter s (pos + n)) := ((Below.refl _ _).alloc (Nat.le_refl _) _).alloc (by simp) _
          replace hbel := Lib.hid hbel
          replace hfin := Lib.hid hfin
          clear hc
          rcases hd with hd | hd
          · have hz : (u : Int) < 65 := by omega
            go_wp2_with fail
            go_ret
            exact ⟨by rw [hfin.out]; rfl, hbel.out⟩
          · have hz : ¬ (u : Int) < 65 := by omega
            have hz' : (90 : Int) < (u : Int) := by omega
            go_wp2_with fail
            go_ret
            exact ⟨by rw [hfin.out]; rfl, hbel.out⟩
      · have hnx : ∀ ty, (Instr.next (.pointer (some ⟨w.heap.size + 1, 0, none⟩)) true ty).run Try.prog ((w.alloc (.cells #[.string s, .int .i64 r, .int .i64 h] 42)).iter s pos) = .ok (.tuple #[.bool false]) ((w.alloc (.cells #[.string s, .int .i64 r, .int .i64 h] 42)).iter s pos) := fun ty => by
          have := run_next_end (P := Try.prog) (w.alloc (.cells #[.string s, .int .i64 r, .int .i64 h] 42)) s pos ty hp
          rw [World.size_alloc] at this
          exact this
        have hfin : missB s = false := by unfold missB; simp; exact ⟨by omega, fun i hi => hall.out i (by omega)⟩
        replace hfin := Lib.hid hfin
        go_wp2_with fail
        go_ret
        exact ⟨by rw [hfin.out]; rfl, hbel.out⟩
  · have hsz : ((s.size : Int) != 3) = true := by simp; omega
    have hfin : missB s = true := by unfold missB; simp; exact fun h => absurd h.1 hs
    replace hfin := Lib.hid hfin
    clear hs
    go_enter Try.func70, Try.ntmps70
    go_wp2_with fail
    go_ret
    exact ⟨by rw [hfin.out]; rfl, (Below.refl _ _).alloc (Nat.le_refl _) _⟩


/-- a Rate or a Haircut out of its bounds -/
def oobB (c : Cur) : Bool := decide (c.rate < 1) || decide (100000000 < c.rate) || decide (c.cut < 0) || decide (10000 < c.cut)
def baseB (c : Cur) : Bool := decide (c.rate = 10000) && decide (c.cut = 0)

set_option maxHeartbeats 1000000 in
set_option maxRecDepth 100000 in
theorem oob_any (c : Cur) (w : World) :
    Calls Try.prog 72 #[.agg #[.string c.code, .int .i64 c.rate, .int .i64 c.cut]] w fun e w' => e = .returned (.bool (oobB c)) ∧ Below w.heap.size w w' := by
  obtain ⟨s, r, h⟩ := c
  simp only
  unfold oobB
  simp only
  by_cases h1 : r < 1
  · have z1 : decide (r < 1) = true := by simpa using h1
    go_enter Try.func72, Try.ntmps72
    go_wp2_with fail
    go_ret
    exact ⟨by simp <;> omega, (Below.refl _ _).alloc (Nat.le_refl _) _⟩
  · have z1 : decide (r < 1) = false := by simpa using h1
    by_cases h2 : 100000000 < r
    · have z2 : decide (100000000 < r) = true := by simpa using h2
      go_enter Try.func72, Try.ntmps72
      go_wp2_with fail
      go_ret
      exact ⟨by simp <;> omega, (Below.refl _ _).alloc (Nat.le_refl _) _⟩
    · have z2 : decide (100000000 < r) = false := by simpa using h2
      by_cases h3 : h < 0
      · have z3 : decide (h < 0) = true := by simpa using h3
        go_enter Try.func72, Try.ntmps72
        go_wp2_with fail
        go_ret
        exact ⟨by simp <;> omega, (Below.refl _ _).alloc (Nat.le_refl _) _⟩
      · have z3 : decide (h < 0) = false := by simpa using h3
        by_cases h4 : 10000 < h
        · have z4 : decide (10000 < h) = true := by simpa using h4
          go_enter Try.func72, Try.ntmps72
          go_wp2_with fail
          go_ret
          exact ⟨by simp <;> omega, (Below.refl _ _).alloc (Nat.le_refl _) _⟩
        · have z4 : decide (10000 < h) = false := by simpa using h4
          go_enter Try.func72, Try.ntmps72
          go_wp2_with fail
          go_ret
          exact ⟨by simp <;> omega, (Below.refl _ _).alloc (Nat.le_refl _) _⟩

set_option maxHeartbeats 1000000 in
set_option maxRecDepth 100000 in
theorem base_any (c : Cur) (w : World) :
    Calls Try.prog 73 #[.agg #[.string c.code, .int .i64 c.rate, .int .i64 c.cut]] w fun e w' => e = .returned (.bool (baseB c)) ∧ Below w.heap.size w w' := by
  obtain ⟨s, r, h⟩ := c
  simp only
  unfold baseB
  simp only
  by_cases h1 : r = 10000
  · subst h1
    by_cases h2 : h = 0
    · subst h2
      go_enter Try.func73, Try.ntmps73
      go_wp2_with fail
      go_ret
      exact ⟨by simp <;> omega, (Below.refl _ _).alloc (Nat.le_refl _) _⟩
    · have z2 : (h == 0) = false := by simpa using h2
      go_enter Try.func73, Try.ntmps73
      go_wp2_with fail
      go_ret
      exact ⟨by simp [h2], (Below.refl _ _).alloc (Nat.le_refl _) _⟩
  · have z1 : (r == 10000) = false := by simpa using h1
    go_enter Try.func73, Try.ntmps73
    go_wp2_with fail
    go_ret
    exact ⟨by simp [h1], (Below.refl _ _).alloc (Nat.le_refl _) _⟩
end Go.Proofs.Ytljclgphgojphaa
