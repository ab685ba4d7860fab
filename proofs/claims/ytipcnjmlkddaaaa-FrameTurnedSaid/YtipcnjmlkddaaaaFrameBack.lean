/- What was laid is told; of a part just what is whole: the law's walk. -/
import Derived.Test.YtipcnjmlkddaaaaK9
namespace Go.Proofs.Ytipcnjmlkddaaaa
open Go.RowKit
set_option linter.unusedVariables false

theorem Own.rowN {B n : Nat} {w : World} {v : Value} {ls : List (List UInt8)} (h : Own B w v ls) (hn : ls.length = n) : ∃ p cap, v = .slice p n cap ∧ SRow w p n ls := by
  subst hn; exact h.row
theorem SRow.take {w : World} {p : Option Addr} {len : Nat} {ls : List (List UInt8)} (h : SRow w p len ls) (j : Nat) (hj : j ≤ len) : SRow w p j (ls.take j) := by
  obtain ⟨h1, h2⟩ := h
  refine ⟨by rw [List.length_take]; omega, ?_⟩
  rcases h2 with h2 | ⟨b, off, rfl, hlt, hc⟩
  · exact .inl (by omega)
  · refine .inr ⟨b, off, rfl, hlt, fun i hi => ?_⟩
    rw [hc i (by omega)]
    simp only [List.getD_eq_getElem?_getD, List.getElem?_take, if_pos hi]
theorem short_all {ls : List (List UInt8)} (h : tot ls ≤ 4000) : ∀ b ∈ ls, b.length ≤ 65536 := fun b hb => by have := tot_mem hb; omega
theorem frames_le (ls : List (List UInt8)) (h : tot ls ≤ 4000) : (frames ls).length ≤ 36009 := by
  have := frames_part ls ls.length (by omega)
  rwa [List.take_length] at this

set_option maxHeartbeats 4000000 in
set_option maxRecDepth 100000 in
theorem frameBack_any (p : Option Addr) (len cap : Nat) (ls : List (List UInt8)) (cut : Int) (w : World) (hs : SRow w p len ls ∧ Short ls ∧ len ≤ 140737488351232 ∧ len ≤ cap) (hcut : 0 ≤ cut ∧ cut ≤ 65535) :
    Calls Try.prog 5 #[.slice p len cap, .int .u16 cut] w fun e w' => e = .returned (.bool true) ∧ Below w.heap.size w w' := by
  obtain ⟨hR, hS, hm, hcap⟩ := hs
  obtain ⟨c, rfl⟩ := Int.eq_ofNat_of_zero_le hcut.1
  replace hR := Lib.hid hR
  replace hS := Lib.hid hS
  go_enter Try.func5, Try.ntmps5
  go_wp2_with fail
  refine (awake_any _).mono ?_
  rintro e w1 ⟨rfl, hb1⟩
  have hR1 := hR.out.kept hb1
  replace hb1 := Lib.hid hb1
  have hsz := size_any p len cap ls w1 hR1 (by omega) hS.out
  replace hR1 := Lib.hid hR1
  by_cases htot : tot ls ≤ 4000
  · have e0 := sizeUpto_all ls 0 (by omega)
    rw [Nat.zero_add] at e0
    rw [e0] at hsz
    have hgz : ¬ (4000 : Int) < (tot ls : Int) := by omega
    have hfl := frames_le ls htot
    have hlaid := scan_laid ls (short_all htot)
    have hall := all_any p len cap ls w1 hR1.out (by omega)
    generalize hT : tot ls = T at *
    replace hT := Lib.hid hT
    replace hsz := Lib.hid hsz
    replace hall := Lib.hid hall
    replace e0 := Lib.hid e0
    go_wp2_with fail
    refine hsz.out.mono ?_
    rintro e w1' ⟨rfl, rfl⟩
    go_wp2_with fail
    with_reducible refine hall.out.mono ?_
    rintro e w2 ⟨rfl, hb2⟩
    have hR2 := hR1.out.kept hb2
    have hb12 := hb1.out.trans (hb2.mono hb1.out.size)
    replace hb12 := Lib.hid hb12
    clear hb2
    obtain ⟨S, hSd⟩ : ∃ S : ByteArray, (⟨(frames ls).toArray⟩ : ByteArray) = S := ⟨_, rfl⟩
    have hbS : bl S = frames ls := by rw [← hSd, bl_mk]
    have hSs : S.size = (frames ls).length := by rw [sz, hbS]
    have hsc := scan_any S w2 (by omega)
    rw [hbS, hlaid] at hsc
    rw [hSd]
    generalize hnn : (frames ls).length = n at *
    have hkz : (0 : Int) < (n : Int) + 1 := by omega
    obtain ⟨K, hKd⟩ : ∃ K : Nat, K = c % (n + 1) := ⟨_, rfl⟩
    have hKn : K ≤ n := by have := Nat.mod_lt c (show 0 < n + 1 by omega); omega
    have hK : (c : Int) % ((n : Int) + 1) = (K : Int) := by rw [hKd]; rfl
    obtain ⟨j, o, c', hj, hpart, ho, hco, hc2, hjn⟩ := scan_part ls K (short_all (by rw [hT.out]; omega)) (by omega)
    obtain ⟨D, hD⟩ : ∃ D : ByteArray, S.extract 0 K = D := ⟨_, rfl⟩
    have hDb : bl D = (frames ls).take K := by rw [← hD, ← hbS]; unfold bl; rw [Lib.extract_data, List.drop_zero, Nat.sub_zero]
    have hsd := fun w => scan_any D w (by rw [← hD, ext_size _ _ _ (by omega)]; omega)
    rw [hDb, hpart] at hsd
    have hKz : (K : Int) ≤ (n : Int) := by omega
    replace hsd := Lib.hid hsd
    replace hKd := Lib.hid hKd
    replace hDb := Lib.hid hDb
    replace hpart := Lib.hid hpart
    replace hjn := Lib.hid hjn
    replace hco := Lib.hid hco
    replace hnn := Lib.hid hnn
    replace hSd := Lib.hid hSd
    replace hbS := Lib.hid hbS
    replace hR2 := Lib.hid hR2
    replace hsc := Lib.hid hsc
    replace hlaid := Lib.hid hlaid
    go_wp2_with fail
    with_reducible refine hsc.out.mono ?_
    rintro e w3 ⟨⟨v, rfl, hown⟩, hb3⟩
    have hR3 := hR2.out.kept hb3
    have hb13 := hb12.out.trans (hb3.mono hb12.out.size)
    obtain ⟨p1, cap1, rfl, hQ⟩ := hown.rowN hR2.out.1
    have hsame := same_any p1 p len len cap1 cap ls ls w3 hQ hR3 (by omega)
    rw [decide_eq_true rfl] at hsame
    clear hb3 hown hQ
    replace hb13 := Lib.hid hb13
    replace hR3 := Lib.hid hR3
    replace hsame := Lib.hid hsame
    go_wp2_with fail
    with_reducible refine hsame.out.mono ?_
    rintro e w4 ⟨rfl, n4, rfl⟩
    go_wp2_with fail
    with_reducible refine (hsd.out _).mono ?_
    rintro e w5 ⟨⟨v, rfl, hown⟩, hb5⟩
    have hR5 := (hR3.out.drewN n4).kept hb5
    have hb15 := (below_dn hb13.out n4).trans (hb5.mono hb13.out.size)
    have hjl : (ls.take j).length = j := by rw [List.length_take]; omega
    obtain ⟨p2, cap2, rfl, hQ⟩ := hown.rowN hjl
    have hsame2 := same_any p2 p j j cap2 cap (ls.take j) (ls.take j) w5 hQ (hR5.take j (by have := hR2.out.1; omega)) (by have := hR2.out.1; omega)
    rw [decide_eq_true rfl] at hsame2
    have hjz : ¬ (len : Int) < (j : Int) := by have := hR2.out.1; omega
    have hoz : ¬ (K : Int) < (o : Int) := by omega
    have hcz2 : ((c' : Int) == 2) = false := by simp; omega
    have hjc : (j : Int) ≤ (cap : Int) := by have := hR2.out.1; omega
    have hjc' : j ≤ cap := by omega
    clear hb5 hown hQ
    replace hb15 := Lib.hid hb15
    replace hR5 := Lib.hid hR5
    replace hsame2 := Lib.hid hsame2
    replace hjl := Lib.hid hjl
    have hll := hR2.out.1
    replace hll := Lib.hid hll
    have hcases : (c' = 0 ∧ o = K) ∨ (((c' : Int) == 0) = false ∧ ((o : Int) == (K : Int)) = false) := by
      by_cases h : c' = 0
      · exact .inl ⟨h, hco.out.1 h⟩
      · refine .inr ⟨by simp; omega, ?_⟩
        have h2 : ¬ o = K := fun h3 => h (hco.out.2 h3)
        simp; omega
    by_cases hjL : j = len
    · subst hjL
      rcases hcases with ⟨rfl, rfl⟩ | ⟨q1, q2⟩
      all_goals
        go_wp2_with fail
        with_reducible refine hsame2.out.mono ?_
        rintro e w6 ⟨rfl, n6, rfl⟩
        go_wp2_with fail
        go_ret
        exact ⟨rfl, below_dn hb15.out n6⟩
    · have hjlt : j < len := by have := hll.out; omega
      have hjz2 : (j : Int) < (len : Int) := by omega
      have hje : ((j : Int) == (len : Int)) = false := by simp; omega
      obtain ⟨b, off, rfl, hlt, hc⟩ := hR5.out.2.resolve_left (by omega)
      have c0 := hc j hjlt
      have hbig := hjn.out (by have := hll.out; omega)
      have hgd : ls.getD j [] = ls[j]'(by have := hll.out; omega) := by
        rw [List.getD_eq_getElem?_getD, List.getElem?_eq_getElem (by have := hll.out; omega)]; rfl
      rw [← hgd] at hbig
      have hbl : ((⟨(ls.getD j []).toArray⟩ : ByteArray)).size = (ls.getD j []).length := by rw [sz, bl_mk]
      have hxs := hS.out j
      generalize ls.getD j [] = x at *
      generalize x.length = q at *
      have hbigz : (K : Int) < (o : Int) + 8 + (q : Int) := by omega
      replace hgd := Lib.hid hgd
      clear hc
      rcases hcases with ⟨rfl, rfl⟩ | ⟨q1, q2⟩
      all_goals
        go_wp2_with fail
        with_reducible refine hsame2.out.mono ?_
        rintro e w6 ⟨rfl, n6, rfl⟩
        go_wp2_with fail
        go_ret
        exact ⟨rfl, below_dn hb15.out n6⟩
  · have e0 := sizeUpto_big ls 0 (by omega)
    generalize sizeUpto ls 0 = T at *
    have hgz : (4000 : Int) < (T : Int) := by omega
    replace hsz := Lib.hid hsz
    go_wp2_with fail
    refine hsz.out.mono ?_
    rintro e w1' ⟨rfl, rfl⟩
    go_wp2_with fail
    go_ret
    exact ⟨rfl, hb1.out⟩
end Go.Proofs.Ytipcnjmlkddaaaa
