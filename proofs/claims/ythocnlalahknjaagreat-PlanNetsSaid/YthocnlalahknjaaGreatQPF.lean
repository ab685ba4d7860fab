/- Rows of rows that are read; the contract of payments. -/
import Derived.Test.YthocnlalahknjaaGreatQPE
namespace Go.Proofs.YthocnlalahknjaaGreat.Dd
open Go.RowKit Go.Maps
set_option linter.unusedVariables false

/-- rows of amounts that are read -/
def NSeq (w : World) (v : Value) (rows : List (List Int)) : Prop :=
  ∃ a cap, v = .slice a rows.length cap ∧ (rows = [] ∨ ∃ b off, a = some ⟨b, off, none⟩ ∧ b < w.heap.size ∧ ∀ i (h : i < rows.length), ∃ p c2, w.cell? ⟨b, off + i, none⟩ = some (.slice p rows[i].length c2) ∧ Seq64 w p rows[i].length rows[i])
theorem NSeq.kept {w w' : World} {v : Value} {rows : List (List Int)} (h : NSeq w v rows) (hb : Below w.heap.size w w') : NSeq w' v rows := by
  obtain ⟨a, cap, e, h0 | ⟨b, off, e2, hlt, hall⟩⟩ := h
  · exact ⟨a, cap, e, .inl h0⟩
  · refine ⟨a, cap, e, .inr ⟨b, off, e2, Nat.lt_of_lt_of_le hlt hb.size, fun i hi => ?_⟩⟩
    obtain ⟨p, c2, h1, h2⟩ := hall i hi
    exact ⟨p, c2, (hb.cell (p := ⟨b, off + i, none⟩) hlt).trans h1, h2.kept hb⟩
/-- what a member paid of a currency -/
def payOf (rows : List (List Int)) (m c : Nat) : Int := max 0 ((rows.getD m []).getD c 0)

set_option maxHeartbeats 2000000 in
set_option maxRecDepth 100000 in
theorem payments_any (v : Value) (rows : List (List Int)) (m c : Nat) (w : World) (h : NSeq w v rows) (hr : rows.length ≤ 4611686018427387904) (hm : (m : Int) ≤ 9223372036854775807) (hcc : (c : Int) ≤ 9223372036854775807) :
    Calls Tryz.prog 72 #[v, .int .i64 (m : Int), .int .i64 (c : Int)] w fun e w' => e = .returned (.int .i64 (payOf rows m c)) ∧ w' = w := by
  obtain ⟨a, cap, rfl, hrd⟩ := h
  obtain ⟨R, hR⟩ : ∃ R, R = payOf rows m c := ⟨_, rfl⟩
  rw [← hR]
  unfold payOf at hR
  obtain ⟨n, hn⟩ : ∃ n, n = rows.length := ⟨_, rfl⟩
  rw [← hn] at hr ⊢
  by_cases h1 : m < n
  · obtain ⟨b, off, rfl, hlt, hall⟩ := hrd.resolve_left (by rintro rfl; simp at hn; omega)
    obtain ⟨p, c2, hcell, hs⟩ := hall m (by omega)
    have e1 : rows.getD m [] = rows[m]'(by omega) := by rw [List.getD_eq_getElem?_getD, List.getElem?_eq_getElem (by omega)]; rfl
    rw [e1] at hR
    generalize rows[m]'(by omega) = row at *
    obtain ⟨k, hk⟩ : ∃ k, k = row.length := ⟨_, rfl⟩
    rw [← hk] at hcell hs
    clear hall hrd e1
    obtain ⟨-, hz, hk2, hcs⟩ := hs
    by_cases h2 : c < k
    · obtain ⟨b2, off2, rfl, hlt2, hall2⟩ := hcs.resolve_left (by omega)
      have hx := hall2 c h2
      generalize row.getD c 0 = x at *
      clear hall2 hcs hz
      replace hR := Lib.hid hR
      have z1 : (m : Int) < (n : Int) := by omega
      have z2 : (c : Int) < (k : Int) := by omega
      have z3 : ¬ (n : Int) ≤ (m : Int) := by omega
      have z4 : ¬ (k : Int) ≤ (c : Int) := by omega
      clear hn hk
      go_enter Tryz.func72, Tryz.ntmps72
      go_wp2_with fail
      go_ret
      exact ⟨by rw [hR.out]; rfl, rfl⟩
    · have hx : row.getD c 0 = 0 := by rw [List.getD_eq_getElem?_getD, List.getElem?_eq_none (by omega)]; rfl
      rw [hx] at hR
      replace hR : R = 0 := by rw [hR]; rfl
      replace hR := Lib.hid hR
      have z1 : (m : Int) < (n : Int) := by omega
      have z3 : ¬ (n : Int) ≤ (m : Int) := by omega
      have z4 : (k : Int) ≤ (c : Int) := by omega
      clear hn hk hx hcs hz
      go_enter Tryz.func72, Tryz.ntmps72
      go_wp2_with fail
      go_ret
      exact ⟨by rw [hR.out]; rfl, rfl⟩
  · have hx : rows.getD m [] = [] := by rw [List.getD_eq_getElem?_getD, List.getElem?_eq_none (by omega)]; rfl
    rw [hx] at hR
    replace hR : R = 0 := by rw [hR]; rfl
    replace hR := Lib.hid hR
    have z3 : (n : Int) ≤ (m : Int) := by omega
    clear hn hx hrd
    go_enter Tryz.func72, Tryz.ntmps72
    go_wp2_with fail
    go_ret
    exact ⟨by rw [hR.out]; rfl, rfl⟩
end Go.Proofs.YthocnlalahknjaaGreat.Dd
