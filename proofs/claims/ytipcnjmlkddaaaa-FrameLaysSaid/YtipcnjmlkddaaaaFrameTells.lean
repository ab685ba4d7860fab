/- The check of any bytes, their frame, and what stands in them, as the document says: the law's walk. -/
import Derived.Test.YtipcnjmlkddaaaaM1
namespace Go.Proofs.Ytipcnjmlkddaaaa
open Go.RowKit
set_option linter.unusedVariables false

theorem Own.rowM {B n : Nat} {w : World} {v : Value} {ls : List (List UInt8)} (h : Own B w v ls) (hn : ls.length = n) : ∃ p cap, v = .slice p n cap ∧ SRow w p n ls := by
  subst hn; exact h.row
theorem scan_few (l : List UInt8) (f : Nat) : (scanF f l).1.length ≤ l.length := by
  induction f generalizing l with
  | zero => simp [scanF]
  | succ f ih =>
    rw [scanF]
    cases e : stop l with
    | some c => simp
    | none =>
      obtain ⟨h8, hn, hl, _⟩ := stop_none e
      have := ih (l.drop (8 + num l))
      simp only [List.length_cons, List.length_drop] at this ⊢
      omega

set_option maxHeartbeats 4000000 in
set_option maxRecDepth 100000 in
theorem frameTells_any (b : ByteArray) (w : World) (hb : b.size ≤ 140737488351232) :
    Calls Try.prog 3 #[.string b] w fun e w' => e = .returned (.bool true) ∧ Below w.heap.size w w' := by
  go_enter Try.func3, Try.ntmps3
  go_wp2_with fail
  refine (awake_any _).mono ?_
  rintro e w1 ⟨rfl, hb1⟩
  replace hb1 := Lib.hid hb1
  by_cases hbig : b.size ≤ 4000
  · have hbz : ¬ (4000 : Int) < (b.size : Int) := by omega
    have cP := fun w => put_any (bl b) w (by rw [bl_length]; exact hbig)
    have cR := fun w => putR_any (bl b) w (by rw [bl_length]; omega)
    rw [mk_bl] at cP cR
    have cS := fun w => scan_any b w (by omega)
    have cT := fun w => scanR_any b w (by omega)
    have cC := fun w => check_any b w (by omega)
    have cD := fun w => checkR_any b w (by omega)
    have hfew := scan_few (bl b) ((bl b).length + 1)
    obtain ⟨F, hF⟩ : ∃ F : ByteArray, (⟨(frame (bl b)).toArray⟩ : ByteArray) = F := ⟨_, rfl⟩
    rw [hF] at cP cR
    obtain ⟨recs, o, c, hsc⟩ : ∃ recs o c, scan (bl b) = (recs, o, c) := ⟨_, _, _, rfl⟩
    rw [hsc] at cS cT
    have hfew2 : recs.length ≤ 4000 := by
      have h : (scan (bl b)).1.length ≤ (bl b).length := hfew
      rw [hsc, bl_length] at h
      exact Nat.le_trans h hbig
    generalize crc (bl b) = q at *
    replace hF := Lib.hid hF
    replace hsc := Lib.hid hsc
    replace hfew := Lib.hid hfew
    replace cP := Lib.hid cP
    replace cR := Lib.hid cR
    replace cS := Lib.hid cS
    replace cT := Lib.hid cT
    replace cC := Lib.hid cC
    replace cD := Lib.hid cD
    go_wp2_with fail
    with_reducible refine (cP.out _).mono ?_
    rintro e w2 ⟨rfl, h2⟩
    have b2 := hb1.out.trans (h2.mono hb1.out.size)
    clear h2
    replace b2 := Lib.hid b2
    go_wp2_with fail
    with_reducible refine (cR.out _).mono ?_
    rintro e w3 ⟨rfl, h3⟩
    have b3 := b2.out.trans (h3.mono b2.out.size)
    clear h3
    replace b3 := Lib.hid b3
    go_wp2_with fail
    with_reducible refine (cS.out _).mono ?_
    rintro e w4 ⟨⟨v, rfl, hown⟩, h4⟩
    have b4 := b3.out.trans (h4.mono b3.out.size)
    clear h4
    replace b4 := Lib.hid b4
    obtain ⟨n, hn⟩ : ∃ n, recs.length = n := ⟨_, rfl⟩
    obtain ⟨p1, cap1, rfl, hQ⟩ := hown.rowM hn
    clear hown
    replace hQ := Lib.hid hQ
    have hn2 : n ≤ 4000 := by omega
    replace hn := Lib.hid hn
    go_wp2_with fail
    with_reducible refine (cT.out _).mono ?_
    rintro e w5 ⟨⟨v, rfl, hown⟩, h5⟩
    have b5 := b4.out.trans (h5.mono b4.out.size)
    have hQ5 := hQ.out.kept h5
    clear h5
    replace b5 := Lib.hid b5
    obtain ⟨p2, cap2, rfl, hP⟩ := hown.rowM hn.out
    clear hown
    replace hP := Lib.hid hP
    replace hQ5 := Lib.hid hQ5
    go_wp2_with fail
    with_reducible refine (cC.out _).mono ?_
    rintro e w6 ⟨rfl, h6⟩
    have b6 := b5.out.trans (h6.mono b5.out.size)
    have hQ6 := hQ5.out.kept h6
    have hP6 := hP.out.kept h6
    clear h6
    have hsame := same_any p1 p2 n n cap1 cap2 recs recs w6 hQ6 hP6 (by omega)
    rw [decide_eq_true rfl] at hsame
    clear hQ6 hP6
    replace b6 := Lib.hid b6
    replace hsame := Lib.hid hsame
    go_wp2_with fail
    with_reducible refine (cD.out _).mono ?_
    rintro e w6' ⟨rfl, rfl⟩
    go_wp2_with fail
    with_reducible refine hsame.out.mono ?_
    rintro e w7 ⟨rfl, n7, rfl⟩
    go_wp2_with fail
    go_ret
    exact ⟨rfl, below_dn b6.out n7⟩
  · have hbz : (4000 : Int) < (b.size : Int) := by omega
    go_wp2_with fail
    go_ret
    exact ⟨rfl, hb1.out⟩
end Go.Proofs.Ytipcnjmlkddaaaa
