/- Tables of currencies in memory; the contract of the law's large. -/
import Derived.Test.YtbljdjgbjnhcgaaB2
import Derived.OwnWalk
import Derived.Laws.RangeAny
import Derived.Deep.QuietTactic
import Derived.BigQuiet
namespace Go.Proofs.Ytbljdjgbjnhcgaa
open Go.RowKit
set_option linter.unusedVariables false

/-- a currency -/
structure Cur where
  code : ByteArray
  rate : Int
  cut : Int
def Cur.zero : Cur := ⟨⟨#[]⟩, 0, 0⟩
/-- the currency of a place -/
def cAt (cs : List Cur) (i : Nat) : Cur := cs.getD i Cur.zero
def CurOk (c : Cur) : Prop := c.code.size ≤ 140737488351232 ∧ Amt c.rate ∧ Amt c.cut
/-- a table, in a world -/
def Tab (w : World) (p : Option Addr) (len : Nat) (cs : List Cur) : Prop :=
  cs.length = len ∧ (∀ i, CurOk (cAt cs i)) ∧ len ≤ 140737488351232 ∧
    (len = 0 ∨ ∃ b off, p = some ⟨b, off, none⟩ ∧ b < w.heap.size ∧ ∀ i, i < len →
      w.cell? ⟨b, off + i * 3, none⟩ = some (.string (cAt cs i).code) ∧ w.cell? ⟨b, off + i * 3 + 1, none⟩ = some (.int .i64 (cAt cs i).rate) ∧
        w.cell? ⟨b, off + i * 3 + 2, none⟩ = some (.int .i64 (cAt cs i).cut))
theorem Tab.kept {w w' : World} {p : Option Addr} {len : Nat} {cs : List Cur} (h : Tab w p len cs) (hb : Below w.heap.size w w') : Tab w' p len cs := by
  obtain ⟨h1, h2, h3, h4⟩ := h
  refine ⟨h1, h2, h3, ?_⟩
  rcases h4 with h4 | ⟨b, off, e, hlt, hc⟩
  · exact .inl h4
  · refine .inr ⟨b, off, e, Nat.lt_of_lt_of_le hlt hb.size, fun i hi => ?_⟩
    obtain ⟨c0, c1, c2⟩ := hc i hi
    exact ⟨(hb.cell (p := ⟨b, off + i * 3, none⟩) hlt).trans c0, (hb.cell (p := ⟨b, off + i * 3 + 1, none⟩) hlt).trans c1, (hb.cell (p := ⟨b, off + i * 3 + 2, none⟩) hlt).trans c2⟩

theorem cAt_mem {cs : List Cur} {i : Nat} (h : i < cs.length) : cAt cs i ∈ cs := by
  unfold cAt; rw [List.getD_eq_getElem?_getD, List.getElem?_eq_getElem h]; exact List.getElem_mem h
theorem take_cur (cs : List Cur) (k : Nat) (h : k < cs.length) : cs.take (k + 1) = cs.take k ++ [cAt cs k] := by
  rw [List.take_succ_eq_append_getElem h]; simp [cAt, List.getD, h]

/-- how many letters there are -/
def sz (cs : List Cur) : Nat := (cs.map fun c => c.code.size).sum
def largeB (cs : List Cur) : Bool := decide (1000 < sz cs) || decide (20 < cs.length)
theorem sz_app (a b : List Cur) : sz (a ++ b) = sz a + sz b := by simp [sz]
theorem sz_take (cs : List Cur) (k : Nat) (h : k < cs.length) : sz (cs.take (k + 1)) = sz (cs.take k) + (cAt cs k).code.size := by
  rw [take_cur cs k h, sz_app]; simp [sz]
theorem sz_le (cs : List Cur) (k : Nat) : sz (cs.take k) ≤ sz cs := by
  have := sz_app (cs.take k) (cs.drop k)
  rw [List.take_append_drop] at this
  omega

set_option maxHeartbeats 1000000 in
set_option maxRecDepth 100000 in
theorem large_any (p : Option Addr) (len cap : Nat) (cs : List Cur) (w : World) (hs : Tab w p len cs) :
    Calls Try.prog 8 #[.slice p len cap] w fun e w' => e = .returned (.bool (largeB cs)) ∧ w = w' := by
  obtain ⟨hl, hz, hm, hcells⟩ := hs
  replace hl := Lib.hid hl
  replace hz := Lib.hid hz
  replace hcells := Lib.hid hcells
  go_enter Try.func8, Try.ntmps8
  go_wp2_with fail
  go_loop [3, 7] (fun n i => ∃ k : Nat, k ≤ len ∧ i = .int .i64 k ∧ n = .int .i64 (sz (cs.take k) : Nat) ∧ sz (cs.take k) ≤ 1000) (fun _ i => len - (intOf i).toNat)
  case atStart => exact ⟨0, by omega, rfl, by simp [sz], by simp [sz]⟩
  case round =>
    obtain ⟨k, hk, rfl, rfl, hall⟩ := hrel
    by_cases hlt : k < len
    · obtain ⟨b, off, rfl, hblt, hc⟩ := hcells.out.resolve_left (by omega)
      obtain ⟨c0, _, _⟩ := hc k hlt
      obtain ⟨s0, _, _⟩ := hz.out k
      have hst := sz_take cs k (by rw [hl.out]; exact hlt)
      have hsl := sz_le cs (k + 1)
      clear hc
      replace hst := Lib.hid hst
      generalize (cAt cs k).code = s at *
      generalize sz (cs.take k) = n at *
      by_cases hbig : 1000 < n + s.size
      · have hfin : largeB cs = true := by
          unfold largeB; rw [decide_eq_true (by have := hst.out; omega)]; rfl
        replace hfin := Lib.hid hfin
        go_wp2_with fail
        go_ret
        exact ⟨by rw [hfin.out]; rfl, rfl⟩
      · go_wp2_with fail
        go_round
        case rel => exact ⟨k + 1, by omega, by go_num, by rw [hst.out]; go_num, by rw [hst.out]; omega⟩
        case measure => simp [intOf]; omega
    · have hfin : largeB cs = decide ((20 : Int) < (len : Int)) := by
        have e : cs.take k = cs := List.take_of_length_le (by rw [hl.out]; omega)
        rw [e] at hall
        unfold largeB
        rw [decide_eq_false (by omega : ¬ 1000 < sz cs), hl.out, Bool.false_or]
        exact decide_eq_decide.2 (by omega)
      replace hfin := Lib.hid hfin
      go_wp2_with fail
      go_ret
      exact ⟨by rw [hfin.out]; simp, rfl⟩

theorem large_no {cs : List Cur} (h : largeB cs = false) : sz cs ≤ 1000 ∧ cs.length ≤ 20 := by
  unfold largeB at h
  simp at h
  exact h
end Go.Proofs.Ytbljdjgbjnhcgaa
