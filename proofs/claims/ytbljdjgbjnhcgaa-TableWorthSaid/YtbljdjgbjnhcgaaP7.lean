/- awake answers true. -/
import Derived.Test.YtbljdjgbjnhcgaaP6
namespace Go.Proofs.Ytbljdjgbjnhcgaa
open Go.RowKit
set_option linter.unusedVariables false

def eur : Cur := ⟨⟨#[69, 85, 82]⟩, 10000, 0⟩
def usd : Cur := ⟨⟨#[85, 83, 68]⟩, 12500, 200⟩
def euro : List Cur := [eur, usd]

theorem cap_lit (a b c : UInt8) (ha : 65 ≤ a.toNat ∧ a.toNat ≤ 90) (hb : 65 ≤ b.toNat ∧ b.toNat ≤ 90) (hc : 65 ≤ c.toNat ∧ c.toNat ≤ 90) : Cap3 ⟨#[a, b, c]⟩ := by
  refine ⟨rfl, fun i hi => ?_⟩
  rcases (by omega : i = 0 ∨ i = 1 ∨ i = 2) with rfl | rfl | rfl
  · exact ⟨(by decide : 0 < 3), ha⟩
  · exact ⟨(by decide : 1 < 3), hb⟩
  · exact ⟨(by decide : 2 < 3), hc⟩
theorem cap_eur : Cap3 eur.code := cap_lit 69 85 82 (by decide) (by decide) (by decide)
theorem cap_usd : Cap3 usd.code := cap_lit 85 83 68 (by decide) (by decide) (by decide)
theorem eur_usd : eur.code ≠ usd.code := by
  intro h
  have : (#[69, 85, 82] : Array UInt8) = #[85, 83, 68] := congrArg ByteArray.data h
  revert this
  decide
theorem miss_cap {s : ByteArray} (h : Cap3 s) : missB s = false := by unfold missB; simp [h]

theorem chk_two (a b : Cur) (ha : Cap3 a.code) (hb : Cap3 b.code) (hne : a.code ≠ b.code) (oa : oobB a = false) (ob : oobB b = false) (hB : baseB a = true) : chkT [a, b] = 0 := by
  unfold chkT
  rw [if_neg (by simp), if_neg (by simp [missC, miss_cap ha, miss_cap hb]), if_neg, if_neg]
  · rintro (h | h)
    · simp [oa, ob] at h
    · have : baseB (cAt [a, b] 0) = true := hB
      rw [this] at h
      cases h
  · rw [tw_no]
    · simp
    · rintro ⟨j, hj, i, hi, h⟩
      simp at hj
      obtain rfl : j = 1 := by omega
      obtain rfl : i = 0 := by omega
      exact hne h
theorem chk_euro : chkT euro = 0 := chk_two eur usd cap_eur cap_usd eur_usd (by decide) (by decide) (by decide)
theorem chk_rate : chkT (euro.set 1 { cAt euro 1 with rate := 7 }) = 0 := chk_two eur ⟨usd.code, 7, 200⟩ cap_eur cap_usd eur_usd (by decide) (by decide) (by decide)
theorem chk_cut : ¬ chkT (euro.set 0 { cAt euro 0 with cut := 1 }) = 0 := fun h => by
  have h1 := (chk_ok h).2.2.2
  revert h1
  decide
theorem find_usd : findIx ⟨#[85, 83, 68]⟩ euro = some 1 := findIx_some _ euro 1 (by decide) rfl (fun i hi => by
  obtain rfl : i = 0 := by omega
  exact eur_usd)

theorem tab_lit (w : World) : Tab (w.alloc (.cells #[.string ⟨#[69, 85, 82]⟩, .int .i64 10000, .int .i64 0, .string ⟨#[85, 83, 68]⟩, .int .i64 12500, .int .i64 200] 30)) (some ⟨w.heap.size, 0, none⟩) 2 euro := by
  refine ⟨rfl, fun i => ?_, by decide, .inr ⟨w.heap.size, 0, rfl, by simp, fun i hi => ?_⟩⟩
  · rcases (by omega : i = 0 ∨ i = 1 ∨ 2 ≤ i) with rfl | rfl | h
    · exact ⟨by decide, ⟨by decide, by decide⟩, ⟨by decide, by decide⟩⟩
    · exact ⟨by decide, ⟨by decide, by decide⟩, ⟨by decide, by decide⟩⟩
    · unfold cAt
      rw [List.getD_eq_getElem?_getD, List.getElem?_eq_none (by simpa [euro] using h)]
      exact ⟨by decide, ⟨by decide, by decide⟩, ⟨by decide, by decide⟩⟩
  · rcases (by omega : i = 0 ∨ i = 1) with rfl | rfl
    · refine ⟨?_, ?_, ?_⟩ <;> go_simp <;> rfl
    · refine ⟨?_, ?_, ?_⟩ <;> go_simp <;> rfl
theorem curOk_zero : CurOk Cur.zero := ⟨by decide, ⟨by decide, by decide⟩, ⟨by decide, by decide⟩⟩
theorem tab_nil (w : World) : Tab w none 0 [] := ⟨rfl, fun i => by rw [show cAt [] i = Cur.zero by simp [cAt]]; exact curOk_zero, by decide, .inl rfl⟩

theorem aw1 (w : World) (p : Option Addr) (h : Tab w p 2 euro) : Calls Try.prog 17 #[.slice p 2 2, .int .i64 1, .int .i64 100] w fun e w' => e = .returned (.tuple #[.int .i64 122, .int .i64 0]) ∧ Below w.heap.size w w' :=
  worth_any p 2 2 euro 1 100 w h (by decide) ⟨by decide, by decide⟩ (by decide)
theorem aw2 (w : World) (p : Option Addr) (h : Tab w p 2 euro) : Calls Try.prog 17 #[.slice p 2 2, .int .i64 1, .int .i64 (-100)] w fun e w' => e = .returned (.tuple #[.int .i64 (-128), .int .i64 0]) ∧ Below w.heap.size w w' :=
  worth_any p 2 2 euro 1 (-100) w h (by decide) ⟨by decide, by decide⟩ (by decide)
theorem aw3 (w : World) (p : Option Addr) (h : Tab w p 2 euro) : Calls Try.prog 19 #[.slice p 2 2, .int .i64 1, .int .i64 (-100)] w fun e w' => e = .returned (.tuple #[.int .i64 (-125), .int .i64 0]) ∧ Below w.heap.size w w' :=
  plain_any p 2 2 euro 1 (-100) w h (by decide) ⟨by decide, by decide⟩ (by decide)
theorem aw4 (w : World) (p : Option Addr) (h : Tab w p 2 euro) : Calls Try.prog 21 #[.slice p 2 2, .int .i64 0, .int .i64 1, .int .i64 100, .bool true] w fun e w' => e = .returned (.tuple #[.int .i64 80, .int .i64 0]) ∧ Below w.heap.size w w' :=
  change_any p 2 2 euro 0 1 100 true w h (by decide) (by decide) ⟨by decide, by decide⟩ (by decide) (by decide)
theorem aw5 (w : World) (p : Option Addr) : Calls Try.prog 17 #[.slice p 2 2, .int .i64 2, .int .i64 1] w fun e w' => e = .returned (.tuple #[.int .i64 0, .int .i64 1]) ∧ w = w' :=
  worth_no p 2 2 2 1 w (by decide)
theorem aw6 (w : World) (p : Option Addr) (h : Tab w p 2 euro) : Calls Try.prog 13 #[.slice p 2 2, .int .i64 1, .int .i64 7] w fun e w' => Below w.heap.size w w' ∧ ∃ g c, e = .returned (.tuple #[.slice (some ⟨g, 0, none⟩) 2 c, .int .i64 0]) ∧ g < w'.heap.size ∧ w'.cell? ⟨g, 4, none⟩ = some (.int .i64 7) := by
  refine (withRate_any p 2 2 euro 1 7 w h (by decide) (by decide) ⟨by decide, by decide⟩).mono ?_
  rintro e w' ⟨hb, h | ⟨_, g, c, rfl, hT⟩⟩
  · exact absurd chk_rate h.1
  · obtain ⟨_, _, _, hc⟩ := hT
    obtain ⟨b, off, e, hlt, hc⟩ := hc.resolve_left (by decide)
    injection e with e
    injection e with e1 e2
    subst e1; subst e2
    exact ⟨hb, g, c, rfl, hlt, (hc 1 (by decide)).2.1⟩
theorem aw7 (w : World) (p : Option Addr) (h : Tab w p 2 euro) : Calls Try.prog 15 #[.slice p 2 2, .int .i64 0, .int .i64 1] w fun e w' => e = .returned (.tuple #[.slice none 0 0, .int .i64 1]) ∧ Below w.heap.size w w' := by
  refine (withCut_any p 2 2 euro 0 1 w h (by decide) (by decide) ⟨by decide, by decide⟩).mono ?_
  rintro e w' ⟨hb, ⟨_, rfl⟩ | ⟨h, _⟩⟩
  · exact ⟨rfl, hb⟩
  · exact absurd h chk_cut
theorem aw8 (w : World) (p : Option Addr) (h : Tab w p 2 euro) : Calls Try.prog 9 #[.slice p 2 2, .string ⟨#[85, 83, 68]⟩] w fun e w' => e = .returned (.tuple #[.int .i64 1, .bool true]) ∧ Below w.heap.size w w' := by
  have := find_any p 2 2 euro ⟨#[85, 83, 68]⟩ w h
  rw [find_usd] at this
  exact this
theorem aw9 (w : World) (p : Option Addr) (h : Tab w p 2 euro) : Calls Try.prog 11 #[.slice p 2 2] w fun e w' => e = .returned (.int .i64 0) ∧ Below w.heap.size w w' := by
  have := check_any p 2 2 euro w h
  rw [chk_euro] at this
  exact this
theorem aw10 (w : World) : Calls Try.prog 11 #[.slice none 0 0] w fun e w' => e = .returned (.int .i64 4) ∧ Below w.heap.size w w' := by
  have := check_any none 0 0 [] w (tab_nil w)
  rw [show chkT [] = 4 by unfold chkT; rw [if_pos (by simp)]] at this
  exact this


set_option maxHeartbeats 8000000 in
set_option maxRecDepth 100000 in
theorem awake_any (w : World) : Calls Try.prog 7 #[] w fun e w' => e = .returned (.bool true) ∧ Below w.heap.size w w' := by
  have hT := tab_lit w
  have hB : Below w.heap.size w (w.alloc (.cells #[.string ⟨#[69, 85, 82]⟩, .int .i64 10000, .int .i64 0, .string ⟨#[85, 83, 68]⟩, .int .i64 12500, .int .i64 200] 30)) := (Below.refl _ _).alloc (Nat.le_refl _) _
  replace hT := Lib.hid hT
  replace hB := Lib.hid hB
  go_enter Try.func7, Try.ntmps7
  go_wp2_with fail
  refine (aw1 _ _ hT.out).mono ?_
  rintro e w1 ⟨rfl, hb⟩
  replace hT := Lib.hid (hT.out.kept hb)
  replace hB := Lib.hid (chain_trans hB.out hb)
  clear hb
  go_wp2_with fail
  refine (aw2 _ _ hT.out).mono ?_
  rintro e w2 ⟨rfl, hb⟩
  replace hT := Lib.hid (hT.out.kept hb)
  replace hB := Lib.hid (chain_trans hB.out hb)
  clear hb
  go_wp2_with fail
  refine (aw3 _ _ hT.out).mono ?_
  rintro e w3 ⟨rfl, hb⟩
  replace hT := Lib.hid (hT.out.kept hb)
  replace hB := Lib.hid (chain_trans hB.out hb)
  clear hb
  go_wp2_with fail
  refine (aw4 _ _ hT.out).mono ?_
  rintro e w4 ⟨rfl, hb⟩
  replace hT := Lib.hid (hT.out.kept hb)
  replace hB := Lib.hid (chain_trans hB.out hb)
  clear hb
  go_wp2_with fail
  refine (aw5 _ _).mono ?_
  rintro e w5 ⟨rfl, rfl⟩
  go_wp2_with fail
  refine (aw6 _ _ hT.out).mono ?_
  rintro e w6 ⟨hb, g, c, rfl, hg, hc⟩
  replace hT := Lib.hid (hT.out.kept hb)
  replace hB := Lib.hid (chain_trans hB.out hb)
  replace hc := Lib.hid hc
  clear hb
  go_wp2_with fail
  refine (aw7 _ _ hT.out).mono ?_
  rintro e w7 ⟨rfl, hb⟩
  replace hT := Lib.hid (hT.out.kept hb)
  replace hB := Lib.hid (chain_trans hB.out hb)
  replace hc := Lib.hid ((hb.cell (p := ⟨g, 4, none⟩) hg).trans hc.out)
  replace hg := Nat.lt_of_lt_of_le hg hb.size
  clear hb
  go_wp2_with fail
  refine (aw8 _ _ hT.out).mono ?_
  rintro e w8 ⟨rfl, hb⟩
  replace hT := Lib.hid (hT.out.kept hb)
  replace hB := Lib.hid (chain_trans hB.out hb)
  replace hc := Lib.hid ((hb.cell (p := ⟨g, 4, none⟩) hg).trans hc.out)
  replace hg := Nat.lt_of_lt_of_le hg hb.size
  clear hb
  go_wp2_with fail
  refine (aw9 _ _ hT.out).mono ?_
  rintro e w9 ⟨rfl, hb⟩
  replace hB := Lib.hid (chain_trans hB.out hb)
  replace hc := Lib.hid ((hb.cell (p := ⟨g, 4, none⟩) hg).trans hc.out)
  replace hg := Nat.lt_of_lt_of_le hg hb.size
  clear hb hT
  go_wp2_with fail
  refine (aw10 _).mono ?_
  rintro e w10 ⟨rfl, hb⟩
  replace hB := Lib.hid (chain_trans hB.out hb)
  have hc := (hb.cell (p := ⟨g, 4, none⟩) hg).trans hc.out
  clear hb
  go_wp2_with fail
  go_ret
  exact ⟨rfl, hB.out⟩

end Go.Proofs.Ytbljdjgbjnhcgaa
