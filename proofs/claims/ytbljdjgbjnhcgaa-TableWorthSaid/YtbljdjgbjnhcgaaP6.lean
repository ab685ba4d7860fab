/- The contracts of table's allowed, WithRate and WithCut. -/
import Derived.Test.YtbljdjgbjnhcgaaP5
namespace Go.Proofs.Ytbljdjgbjnhcgaa
open Go.RowKit
set_option linter.unusedVariables false

theorem curOk_set {cs : List Cur} {k : Nat} {c : Cur} (h : ∀ i, CurOk (cAt cs i)) (hc : CurOk c) (i : Nat) : CurOk (cAt (cs.set k c) i) := by
  by_cases e : k = i
  · subst e
    by_cases hk : k < cs.length
    · unfold cAt; rw [List.getD_eq_getElem?_getD, List.getElem?_set_self hk]; exact hc
    · rw [List.set_eq_of_length_le (by omega)]; exact h k
  · unfold cAt; rw [List.getD_eq_getElem?_getD, List.getElem?_set_ne e, ← List.getD_eq_getElem?_getD]; exact h i

/-- a table that may be is told as it is -/
theorem allowed_yes (p : Option Addr) (len cap : Nat) (cs : List Cur) (w : World) (hT : Tab w p len cs) (h : chkT cs = 0) :
    Calls Try.prog 32 #[.slice p len cap] w fun e w' => e = .returned (.tuple #[.slice p len cap, .int .i64 0]) ∧ Below w.heap.size w w' := by
  have hcon := check_any p len cap cs w hT
  rw [h] at hcon
  replace hcon := Lib.hid hcon
  clear hT h
  go_enter Try.func32, Try.ntmps32
  go_wp2_with fail
  refine hcon.out.mono ?_
  rintro e w1 ⟨rfl, hb⟩
  replace hb := Lib.hid hb
  go_wp2_with fail
  go_ret2
  exact ⟨rfl, hb.out⟩
theorem allowed_no (p : Option Addr) (len cap : Nat) (cs : List Cur) (w : World) (hT : Tab w p len cs) (h : ¬ chkT cs = 0) :
    Calls Try.prog 32 #[.slice p len cap] w fun e w' => e = .returned (.tuple #[.slice none 0 0, .int .i64 1]) ∧ Below w.heap.size w w' := by
  have hcon := check_any p len cap cs w hT
  generalize chkT cs = n at *
  have hn : (n != 0) = true := by simpa using h
  replace hcon := Lib.hid hcon
  clear hT h
  go_enter Try.func32, Try.ntmps32
  go_wp2_with fail
  refine hcon.out.mono ?_
  rintro e w1 ⟨rfl, hb⟩
  replace hb := Lib.hid hb
  go_wp2_with fail
  go_ret2
  exact ⟨rfl, hb.out⟩

/-- a table of its own, or none -/
def WithOut (cs : List Cur) (len : Nat) (w : World) (e : Ending) (w' : World) : Prop :=
  Below w.heap.size w w' ∧ ((¬ chkT cs = 0 ∧ e = .returned (.tuple #[.slice none 0 0, .int .i64 1])) ∨
    (chkT cs = 0 ∧ ∃ g c, e = .returned (.tuple #[.slice (some ⟨g, 0, none⟩) len c, .int .i64 0]) ∧ Tab w' (some ⟨g, 0, none⟩) len cs))

set_option maxHeartbeats 2000000 in
set_option maxRecDepth 100000 in
theorem withRate_any (p : Option Addr) (len cap : Nat) (cs : List Cur) (k : Nat) (x : Int) (w : World) (hT : Tab w p len cs) (hk : k < len) (hl : len ≤ 1000) (hx : Amt x) :
    Calls Try.prog 13 #[.slice p len cap, .int .i64 k, .int .i64 x] w (WithOut (cs.set k { cAt cs k with rate := x }) len w) := by
  have hT' := hT
  obtain ⟨hle, hz, hm, hcells⟩ := hT
  obtain ⟨b, off, rfl, hblt, hc⟩ := hcells.resolve_left (by omega)
  have hcon := has_any (some ⟨b, off, none⟩) len cap k w
  rw [has_yes (by omega) (by omega)] at hcon
  replace hcon := Lib.hid hcon
  have hcl := Lib.hid (clone_any b off len cap cs w hT' (by omega) hl)
  have hzk := hz k
  have hz' : ∀ i, CurOk (cAt (cs.set k { cAt cs k with rate := x }) i) := curOk_set hz (by obtain ⟨a, b, c⟩ := hzk; first | exact ⟨a, hx, c⟩ | exact ⟨a, b, hx⟩)
  have hset := cells3_rate cs k x (by rw [hle]; exact hk)
  obtain ⟨d0, d1, d2⟩ := cells3_get cs k (by rw [hle]; exact hk)
  have hle' : (cs.set k { cAt cs k with rate := x }).length = len := by rw [List.length_set, hle]
  generalize cs.set k { cAt cs k with rate := x } = cs' at *
  replace hz' := Lib.hid hz'
  replace hset := Lib.hid hset
  replace hle' := Lib.hid hle'
  replace d1 := Lib.hid d1
  replace d2 := Lib.hid d2
  clear hc hcells hz hzk hT' d0 hle
  go_enter Try.func13, Try.ntmps13
  go_wp2_with fail
  refine hcon.out.mono ?_
  rintro e w1 ⟨rfl, rfl⟩
  go_wp2_with fail
  refine hcl.out.mono ?_
  rintro e w1 ⟨g, c, rfl, hown, hb1⟩
  clear hcon hcl
  have f1 : w1.cell? ⟨g, k * 3 + 1, none⟩ = _ := (hown.cellAt (k * 3 + 1) (by omega)).trans d1.out
  have f2 := hown.frozenAt (k * 3 + 1)
  have hg := hown.lt g rfl
  obtain ⟨hst, _⟩ := hown.stored (k * 3 + 1) (.int .i64 x)
  rw [hset.out] at hst
  have hT1 := Tab.of_own hst hle'.out hz'.out hm
  have hb2 := hb1.setCell (p := ⟨g, k * 3 + 1, none⟩) hg.1 (.int .i64 x)
  replace hb1 := Lib.hid hb1
  replace hb2 := Lib.hid hb2
  replace hown := Lib.hid hown
  clear hst
  by_cases hok : chkT cs' = 0
  · have hal := Lib.hid (allowed_yes (some ⟨g, 0, none⟩) len c cs' _ hT1 hok)
    replace hT1 := Lib.hid hT1
    replace hok := Lib.hid hok
    go_wp2_with fail
    refine hal.out.mono ?_
    rintro e w2 ⟨rfl, hb3⟩
    have hT2 := Lib.hid (hT1.out.kept hb3)
    replace hb3 := Lib.hid (chain_trans hb2.out hb3)
    go_wp2_with fail
    go_ret2
    exact ⟨hb3.out, .inr ⟨hok.out, g, c, rfl, hT2.out⟩⟩
  · have hal := Lib.hid (allowed_no (some ⟨g, 0, none⟩) len c cs' _ hT1 hok)
    replace hT1 := Lib.hid hT1
    replace hok := Lib.hid hok
    go_wp2_with fail
    refine hal.out.mono ?_
    rintro e w2 ⟨rfl, hb3⟩
    replace hb3 := Lib.hid (chain_trans hb2.out hb3)
    go_wp2_with fail
    go_ret2
    exact ⟨hb3.out, .inl ⟨hok.out, rfl⟩⟩

set_option maxHeartbeats 1000000 in
theorem withRate_none (p : Option Addr) (len cap : Nat) (cur x : Int) (w : World) (h : ¬ (0 ≤ cur ∧ cur < len)) :
    Calls Try.prog 13 #[.slice p len cap, .int .i64 cur, .int .i64 x] w fun e w' => e = .returned (.tuple #[.slice none 0 0, .int .i64 1]) ∧ w = w' := by
  have hcon := has_any p len cap cur w
  rw [has_no h] at hcon
  replace hcon := Lib.hid hcon
  clear h
  go_enter Try.func13, Try.ntmps13
  go_wp2_with fail
  refine hcon.out.mono ?_
  rintro e w1 ⟨rfl, rfl⟩
  go_wp2_with fail
  go_ret2
  exact ⟨rfl, rfl⟩

set_option maxHeartbeats 2000000 in
set_option maxRecDepth 100000 in
theorem withCut_any (p : Option Addr) (len cap : Nat) (cs : List Cur) (k : Nat) (x : Int) (w : World) (hT : Tab w p len cs) (hk : k < len) (hl : len ≤ 1000) (hx : Amt x) :
    Calls Try.prog 15 #[.slice p len cap, .int .i64 k, .int .i64 x] w (WithOut (cs.set k { cAt cs k with cut := x }) len w) := by
  have hT' := hT
  obtain ⟨hle, hz, hm, hcells⟩ := hT
  obtain ⟨b, off, rfl, hblt, hc⟩ := hcells.resolve_left (by omega)
  have hcon := has_any (some ⟨b, off, none⟩) len cap k w
  rw [has_yes (by omega) (by omega)] at hcon
  replace hcon := Lib.hid hcon
  have hcl := Lib.hid (clone_any b off len cap cs w hT' (by omega) hl)
  have hzk := hz k
  have hz' : ∀ i, CurOk (cAt (cs.set k { cAt cs k with cut := x }) i) := curOk_set hz (by obtain ⟨a, b, c⟩ := hzk; first | exact ⟨a, hx, c⟩ | exact ⟨a, b, hx⟩)
  have hset := cells3_cut cs k x (by rw [hle]; exact hk)
  obtain ⟨d0, d1, d2⟩ := cells3_get cs k (by rw [hle]; exact hk)
  have hle' : (cs.set k { cAt cs k with cut := x }).length = len := by rw [List.length_set, hle]
  generalize cs.set k { cAt cs k with cut := x } = cs' at *
  replace hz' := Lib.hid hz'
  replace hset := Lib.hid hset
  replace hle' := Lib.hid hle'
  replace d1 := Lib.hid d1
  replace d2 := Lib.hid d2
  clear hc hcells hz hzk hT' d0 hle
  go_enter Try.func15, Try.ntmps15
  go_wp2_with fail
  refine hcon.out.mono ?_
  rintro e w1 ⟨rfl, rfl⟩
  go_wp2_with fail
  refine hcl.out.mono ?_
  rintro e w1 ⟨g, c, rfl, hown, hb1⟩
  clear hcon hcl
  have f1 : w1.cell? ⟨g, k * 3 + 2, none⟩ = _ := (hown.cellAt (k * 3 + 2) (by omega)).trans d2.out
  have f2 := hown.frozenAt (k * 3 + 2)
  have hg := hown.lt g rfl
  obtain ⟨hst, _⟩ := hown.stored (k * 3 + 2) (.int .i64 x)
  rw [hset.out] at hst
  have hT1 := Tab.of_own hst hle'.out hz'.out hm
  have hb2 := hb1.setCell (p := ⟨g, k * 3 + 2, none⟩) hg.1 (.int .i64 x)
  replace hb1 := Lib.hid hb1
  replace hb2 := Lib.hid hb2
  replace hown := Lib.hid hown
  clear hst
  by_cases hok : chkT cs' = 0
  · have hal := Lib.hid (allowed_yes (some ⟨g, 0, none⟩) len c cs' _ hT1 hok)
    replace hT1 := Lib.hid hT1
    replace hok := Lib.hid hok
    go_wp2_with fail
    refine hal.out.mono ?_
    rintro e w2 ⟨rfl, hb3⟩
    have hT2 := Lib.hid (hT1.out.kept hb3)
    replace hb3 := Lib.hid (chain_trans hb2.out hb3)
    go_wp2_with fail
    go_ret2
    exact ⟨hb3.out, .inr ⟨hok.out, g, c, rfl, hT2.out⟩⟩
  · have hal := Lib.hid (allowed_no (some ⟨g, 0, none⟩) len c cs' _ hT1 hok)
    replace hT1 := Lib.hid hT1
    replace hok := Lib.hid hok
    go_wp2_with fail
    refine hal.out.mono ?_
    rintro e w2 ⟨rfl, hb3⟩
    replace hb3 := Lib.hid (chain_trans hb2.out hb3)
    go_wp2_with fail
    go_ret2
    exact ⟨hb3.out, .inl ⟨hok.out, rfl⟩⟩

set_option maxHeartbeats 1000000 in
theorem withCut_none (p : Option Addr) (len cap : Nat) (cur x : Int) (w : World) (h : ¬ (0 ≤ cur ∧ cur < len)) :
    Calls Try.prog 15 #[.slice p len cap, .int .i64 cur, .int .i64 x] w fun e w' => e = .returned (.tuple #[.slice none 0 0, .int .i64 1]) ∧ w = w' := by
  have hcon := has_any p len cap cur w
  rw [has_no h] at hcon
  replace hcon := Lib.hid hcon
  clear h
  go_enter Try.func15, Try.ntmps15
  go_wp2_with fail
  refine hcon.out.mono ?_
  rintro e w1 ⟨rfl, rfl⟩
  go_wp2_with fail
  go_ret2
  exact ⟨rfl, rfl⟩

end Go.Proofs.Ytbljdjgbjnhcgaa
