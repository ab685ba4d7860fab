/- The contracts of table's Check, has, allowed, Worth, Plain and Change. -/
import Derived.Test.YtiehbbhjpcnbnaaGreatMAB
import Derived.Deep.RegionHeld3
namespace Go.Proofs.YtiehbbhjpcnbnaaGreat
open Go.RowKit
set_option linter.unusedVariables false

/-- what Check tells -/
noncomputable def chkT (cs : List Cur) : Int :=
  if cs.length < 1 ∨ 8 < cs.length then 4 else if cs.any missC = true then 2 else if twB cs = true then 6 else if cs.any oobB = true ∨ baseB (cAt cs 0) = false then 1 else 0

set_option maxHeartbeats 2000000 in
set_option maxRecDepth 100000 in
theorem check_any (p : Option Addr) (len cap : Nat) (cs : List Cur) (w : World) (hs : Tab w p len cs) :
    Calls Tryz.prog 72 #[.slice p len cap] w fun e w' => e = .returned (.int .i64 (chkT cs)) ∧ Below w.heap.size w w' := by
  have hl := hs.1
  by_cases h0 : len < 1
  · have z0 : (len : Int) < 1 := by omega
    have hfin : chkT cs = 4 := by unfold chkT; rw [if_pos (by omega)]
    replace hfin := Lib.hid hfin
    clear hs hl
    go_enter Tryz.func72, Tryz.ntmps72
    go_wp2_with fail
    go_ret
    exact ⟨by rw [hfin.out]; rfl, Below.refl _ _⟩
  · have z0 : ¬ (len : Int) < 1 := by omega
    by_cases h8 : 8 < len
    · have z8 : (8 : Int) < (len : Int) := by omega
      have hfin : chkT cs = 4 := by unfold chkT; rw [if_pos (by omega)]
      replace hfin := Lib.hid hfin
      clear hs hl
      go_enter Tryz.func72, Tryz.ntmps72
      go_wp2_with fail
      go_ret
      exact ⟨by rw [hfin.out]; rfl, Below.refl _ _⟩
    · have z8 : ¬ (8 : Int) < (len : Int) := by omega
      have hne : ¬ (cs.length < 1 ∨ 8 < cs.length) := by omega
      replace hne := Lib.hid hne
      replace hl := Lib.hid hl
      have hcon1 := contains_miss p len cap cs w hs
      replace hs := Lib.hid hs
      by_cases hm : cs.any missC = true
      · have hfin : chkT cs = 2 := by unfold chkT; rw [if_neg hne.out, if_pos hm]
        replace hfin := Lib.hid hfin
        simp only [hm] at hcon1
        replace hcon1 := Lib.hid hcon1
        clear hm
        go_enter Tryz.func72, Tryz.ntmps72
        go_wp2_with fail
        refine hcon1.out.mono ?_
        rintro e w1 ⟨rfl, hb1⟩
        replace hb1 := Lib.hid hb1
        go_wp2_with fail
        go_ret
        exact ⟨by rw [hfin.out]; rfl, hb1.out⟩
      · have hm' : cs.any missC = false := by simpa using hm
        simp only [hm'] at hcon1
        replace hcon1 := Lib.hid hcon1
        replace hm := Lib.hid hm
        clear hm'
        go_enter Tryz.func72, Tryz.ntmps72
        go_wp2_with fail
        refine hcon1.out.mono ?_
        rintro e w1 ⟨rfl, hb1⟩
        have hs1 := hs.out.kept hb1
        have hcon2 := twice_any p len cap cs w1 hs1
        replace hb1 := Lib.hid hb1
        replace hs1 := Lib.hid hs1
        clear hcon1
        by_cases ht : twB cs = true
        · have hfin : chkT cs = 6 := by unfold chkT; rw [if_neg hne.out, if_neg hm.out, if_pos ht]
          replace hfin := Lib.hid hfin
          simp only [ht] at hcon2
          replace hcon2 := Lib.hid hcon2
          clear ht
          go_wp2_with fail
          refine hcon2.out.mono ?_
          rintro e w2 ⟨rfl, hb2⟩
          replace hb2 := Lib.hid hb2
          go_wp2_with fail
          go_ret
          exact ⟨by rw [hfin.out]; rfl, chain_trans hb1.out hb2.out⟩
        · have ht' : twB cs = false := by simpa using ht
          simp only [ht'] at hcon2
          replace hcon2 := Lib.hid hcon2
          replace ht := Lib.hid ht
          clear ht'
          go_wp2_with fail
          refine hcon2.out.mono ?_
          rintro e w2 ⟨rfl, hb2⟩
          have hs2 := hs1.out.kept hb2
          replace hb2 := Lib.hid (chain_trans hb1.out hb2)
          clear hcon2 hs1 hb1
          have hcon3 := contains_oob p len cap cs w2 hs2
          replace hs2 := Lib.hid hs2
          by_cases ho : cs.any oobB = true
          · have hfin : chkT cs = 1 := by unfold chkT; rw [if_neg hne.out, if_neg hm.out, if_neg ht.out, if_pos (.inl ho)]
            replace hfin := Lib.hid hfin
            simp only [ho] at hcon3
            replace hcon3 := Lib.hid hcon3
            clear ho
            go_wp2_with fail
            refine hcon3.out.mono ?_
            rintro e w3 ⟨rfl, hb3⟩
            replace hb3 := Lib.hid hb3
            go_wp2_with fail
            go_ret
            exact ⟨by rw [hfin.out]; rfl, chain_trans hb2.out hb3.out⟩
          · have ho' : cs.any oobB = false := by simpa using ho
            simp only [ho'] at hcon3
            replace hcon3 := Lib.hid hcon3
            replace ho := Lib.hid ho
            clear ho'
            go_wp2_with fail
            refine hcon3.out.mono ?_
            rintro e w3 ⟨rfl, hb3⟩
            obtain ⟨_, hz, hmx, hcells⟩ := hs2.out.kept hb3
            obtain ⟨b, off, rfl, hblt, hc⟩ := hcells.resolve_left (by omega)
            obtain ⟨c0, c1, c2⟩ := hc 0 (by omega)
            simp only [Nat.zero_mul, Nat.add_zero] at c0 c1 c2
            replace hb3 := Lib.hid (chain_trans hb2.out hb3)
            clear hc hz hcells hcon3 hb2 hs2
            have hcon4 := base_any (cAt cs 0) w3
            by_cases hB : baseB (cAt cs 0) = true
            · have hfin : chkT cs = 0 := by unfold chkT; rw [if_neg hne.out, if_neg hm.out, if_neg ht.out, if_neg (by rintro (h | h); exact ho.out h; rw [hB] at h; cases h)]
              replace hfin := Lib.hid hfin
              simp only [hB] at hcon4
              replace hcon4 := Lib.hid hcon4
              clear hB
              go_wp2_with fail
              refine hcon4.out.mono ?_
              rintro e w4 ⟨rfl, hb4⟩
              replace hb4 := Lib.hid hb4
              go_wp2_with fail
              go_ret
              exact ⟨by rw [hfin.out]; rfl, chain_trans hb3.out hb4.out⟩
            · have hB' : baseB (cAt cs 0) = false := by simpa using hB
              have hfin : chkT cs = 1 := by unfold chkT; rw [if_neg hne.out, if_neg hm.out, if_neg ht.out, if_pos (.inr hB')]
              replace hfin := Lib.hid hfin
              simp only [hB'] at hcon4
              replace hcon4 := Lib.hid hcon4
              clear hB hB'
              go_wp2_with fail
              refine hcon4.out.mono ?_
              rintro e w4 ⟨rfl, hb4⟩
              replace hb4 := Lib.hid hb4
              go_wp2_with fail
              go_ret
              exact ⟨by rw [hfin.out]; rfl, chain_trans hb3.out hb4.out⟩

/-- a table that may be -/
theorem chk_ok {cs : List Cur} (h : chkT cs = 0) : 1 ≤ cs.length ∧ cs.length ≤ 8 ∧ (∀ i, i < cs.length → oobB (cAt cs i) = false) ∧ baseB (cAt cs 0) = true := by
  unfold chkT at h
  by_cases h1 : cs.length < 1 ∨ 8 < cs.length
  · rw [if_pos h1] at h; omega
  · rw [if_neg h1] at h
    by_cases h2 : cs.any missC = true
    · rw [if_pos h2] at h; omega
    · rw [if_neg h2] at h
      by_cases h3 : twB cs = true
      · rw [if_pos h3] at h; omega
      · rw [if_neg h3] at h
        by_cases h4 : cs.any oobB = true ∨ baseB (cAt cs 0) = false
        · rw [if_pos h4] at h; omega
        · refine ⟨by omega, by omega, fun i hi => ?_, ?_⟩
          · by_cases e : oobB (cAt cs i) = true
            · exact absurd (.inl (any_yes hi e)) h4
            · simpa using e
          · by_cases e : baseB (cAt cs 0) = true
            · exact e
            · exact absurd (.inr (by simpa using e)) h4
theorem oob_no {c : Cur} (h : oobB c = false) : 1 ≤ c.rate ∧ c.rate ≤ 100000000 ∧ 0 ≤ c.cut ∧ c.cut ≤ 10000 := by
  unfold oobB at h; simp at h; omega

/-- a place of the table -/
def hasB (len : Nat) (cur : Int) : Bool := decide (0 ≤ cur) && decide (cur < len)
set_option maxHeartbeats 1000000 in
theorem has_any (p : Option Addr) (len cap : Nat) (cur : Int) (w : World) :
    Calls Tryz.prog 126 #[.slice p len cap, .int .i64 cur] w fun e w' => e = .returned (.bool (hasB len cur)) ∧ w = w' := by
  unfold hasB
  by_cases h : 0 ≤ cur
  · have z : decide (0 ≤ cur) = true := by simpa using h
    go_enter Tryz.func126, Tryz.ntmps126
    go_wp2_with fail
    go_ret
    exact ⟨by simp <;> omega, rfl⟩
  · have z : decide (0 ≤ cur) = false := by simpa using h
    go_enter Tryz.func126, Tryz.ntmps126
    go_wp2_with fail
    go_ret
    exact ⟨by simp <;> omega, rfl⟩
theorem has_yes {len : Nat} {cur : Int} (h0 : 0 ≤ cur) (h1 : cur < len) : hasB len cur = true := by unfold hasB; simp; omega
theorem has_no {len : Nat} {cur : Int} (h : ¬ (0 ≤ cur ∧ cur < len)) : hasB len cur = false := by unfold hasB; simp; omega


/-- the part of a whole that counts -/
def partOf (c : Cur) (a : Int) : Int := if a < 0 then 10000 + c.cut else 10000 - c.cut
/-- what an amount is worth; plainly; in another currency -/
def worthT (c : Cur) (a : Int) : Int := muldiv a (c.rate * partOf c a) 100000000 false
def plainT (c : Cur) (a : Int) : Int := muldiv a c.rate 10000 false
def changeT (c d : Cur) (a : Int) (up : Bool) : Int := muldiv a c.rate d.rate up

theorem part_bd (r h : Int) (r0 : 1 ≤ r) (r1 : r ≤ 100000000) (h0 : 0 ≤ h) (h1 : h ≤ 20000) : 0 ≤ r * h ∧ r * h ≤ 2000000000000 := by
  refine ⟨Int.mul_nonneg (by omega) h0, ?_⟩
  have a1 : r * h ≤ 100000000 * h := Int.mul_le_mul_of_nonneg_right r1 h0
  omega

set_option maxHeartbeats 1000000 in
theorem worth_no (p : Option Addr) (len cap : Nat) (cur a : Int) (w : World) (h : ¬ (0 ≤ cur ∧ cur < len)) :
    Calls Tryz.prog 118 #[.slice p len cap, .int .i64 cur, .int .i64 a] w fun e w' => e = .returned (.tuple #[.int .i64 0, .int .i64 1]) ∧ w = w' := by
  have hcon := has_any p len cap cur w
  rw [has_no h] at hcon
  replace hcon := Lib.hid hcon
  clear h
  go_enter Tryz.func118, Tryz.ntmps118
  go_wp2_with fail
  refine hcon.out.mono ?_
  rintro e w1 ⟨rfl, rfl⟩
  go_wp2_with fail
  go_ret2
  exact ⟨rfl, rfl⟩
set_option maxHeartbeats 1000000 in
theorem plain_no (p : Option Addr) (len cap : Nat) (cur a : Int) (w : World) (h : ¬ (0 ≤ cur ∧ cur < len)) :
    Calls Tryz.prog 120 #[.slice p len cap, .int .i64 cur, .int .i64 a] w fun e w' => e = .returned (.tuple #[.int .i64 0, .int .i64 1]) ∧ w = w' := by
  have hcon := has_any p len cap cur w
  rw [has_no h] at hcon
  replace hcon := Lib.hid hcon
  clear h
  go_enter Tryz.func120, Tryz.ntmps120
  go_wp2_with fail
  refine hcon.out.mono ?_
  rintro e w1 ⟨rfl, rfl⟩
  go_wp2_with fail
  go_ret2
  exact ⟨rfl, rfl⟩

set_option maxHeartbeats 1000000 in
set_option maxRecDepth 100000 in
theorem worth_any (p : Option Addr) (len cap : Nat) (cs : List Cur) (k : Nat) (a : Int) (w : World) (hs : Tab w p len cs) (hk : k < len) (ha : Amt a) (ho : oobB (cAt cs k) = false) :
    Calls Tryz.prog 118 #[.slice p len cap, .int .i64 k, .int .i64 a] w fun e w' => e = .returned (.tuple #[.int .i64 (fitV (worthT (cAt cs k) a)), .int .i64 (fitE (worthT (cAt cs k) a))]) ∧ Below w.heap.size w w' := by
  obtain ⟨hl, hz, hm, hcells⟩ := hs
  obtain ⟨b, off, rfl, hblt, hc⟩ := hcells.resolve_left (by omega)
  obtain ⟨c0, c1, c2⟩ := hc k hk
  obtain ⟨r0, r1, u0, u1⟩ := oob_no ho
  obtain ⟨a0, a1⟩ := ha
  have hcon := has_any (some ⟨b, off, none⟩) len cap k w
  rw [has_yes (by omega) (by omega)] at hcon
  have hfin : worthT (cAt cs k) a = muldiv a ((cAt cs k).rate * partOf (cAt cs k) a) 100000000 false := rfl
  have hpo : partOf (cAt cs k) a = if a < 0 then 10000 + (cAt cs k).cut else 10000 - (cAt cs k).cut := rfl
  rw [hfin, hpo]
  clear hfin hpo hc hl hz hcells ho
  generalize (cAt cs k).rate = r at *
  generalize (cAt cs k).cut = h at *
  replace hcon := Lib.hid hcon
  by_cases hn : a < 0
  · rw [if_pos hn]
    obtain ⟨q0, q1⟩ := part_bd r (10000 + h) r0 r1 (by omega) (by omega)
    go_enter Tryz.func118, Tryz.ntmps118
    go_wp2_with fail
    refine hcon.out.mono ?_
    rintro e w1 ⟨rfl, rfl⟩
    go_wp2_with fail
    refine (muldiv_any a (r * (10000 + h)) 100000000 false _ a0 a1 (by omega) (by omega) (by omega) (by omega)).mono ?_
    rintro e w1 ⟨rfl, hb1⟩
    replace hb1 := Lib.hid hb1
    go_wp2_with fail
    go_ret2
    exact ⟨rfl, hb1.out⟩
  · rw [if_neg hn]
    obtain ⟨q0, q1⟩ := part_bd r (10000 - h) r0 r1 (by omega) (by omega)
    go_enter Tryz.func118, Tryz.ntmps118
    go_wp2_with fail
    refine hcon.out.mono ?_
    rintro e w1 ⟨rfl, rfl⟩
    go_wp2_with fail
    refine (muldiv_any a (r * (10000 - h)) 100000000 false _ a0 a1 (by omega) (by omega) (by omega) (by omega)).mono ?_
    rintro e w1 ⟨rfl, hb1⟩
    replace hb1 := Lib.hid hb1
    go_wp2_with fail
    go_ret2
    exact ⟨rfl, hb1.out⟩


set_option maxHeartbeats 1000000 in
set_option maxRecDepth 100000 in
theorem plain_any (p : Option Addr) (len cap : Nat) (cs : List Cur) (k : Nat) (a : Int) (w : World) (hs : Tab w p len cs) (hk : k < len) (ha : Amt a) (ho : oobB (cAt cs k) = false) :
    Calls Tryz.prog 120 #[.slice p len cap, .int .i64 k, .int .i64 a] w fun e w' => e = .returned (.tuple #[.int .i64 (fitV (plainT (cAt cs k) a)), .int .i64 (fitE (plainT (cAt cs k) a))]) ∧ Below w.heap.size w w' := by
  obtain ⟨hl, hz, hm, hcells⟩ := hs
  obtain ⟨b, off, rfl, hblt, hc⟩ := hcells.resolve_left (by omega)
  obtain ⟨c0, c1, c2⟩ := hc k hk
  obtain ⟨r0, r1, u0, u1⟩ := oob_no ho
  obtain ⟨a0, a1⟩ := ha
  have hcon := has_any (some ⟨b, off, none⟩) len cap k w
  rw [has_yes (by omega) (by omega)] at hcon
  have hfin : plainT (cAt cs k) a = muldiv a (cAt cs k).rate 10000 false := rfl
  rw [hfin]
  clear hfin hc hl hz hcells ho
  generalize (cAt cs k).rate = r at *
  generalize (cAt cs k).cut = h at *
  replace hcon := Lib.hid hcon
  go_enter Tryz.func120, Tryz.ntmps120
  go_wp2_with fail
  refine hcon.out.mono ?_
  rintro e w1 ⟨rfl, rfl⟩
  go_wp2_with fail
  refine (muldiv_any a r 10000 false _ a0 a1 (by omega) (by omega) (by omega) (by omega)).mono ?_
  rintro e w1 ⟨rfl, hb1⟩
  replace hb1 := Lib.hid hb1
  go_wp2_with fail
  go_ret2
  exact ⟨rfl, hb1.out⟩

end Go.Proofs.YtiehbbhjpcnbnaaGreat
