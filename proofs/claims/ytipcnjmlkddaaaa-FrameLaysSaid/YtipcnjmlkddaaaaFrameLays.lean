/- The frames of many records, and what stands in them with any bytes behind, as the document says: the law's walk. -/
import Derived.Test.YtipcnjmlkddaaaaFrameTells
namespace Go.Proofs.Ytipcnjmlkddaaaa
open Go.RowKit
set_option linter.unusedVariables false

theorem append_size (a b : ByteArray) : (a ++ b).size = a.size + b.size := by simp

theorem sizeUpto_lim : ∀ (l : List (List UInt8)) (n : Nat), (∀ x ∈ l, x.length ≤ 281474976710656) → n ≤ 281474977710657 → sizeUpto l n ≤ 281474977710657
  | [], n, _, hn => hn
  | x :: r, n, h, hn => by
    rw [sizeUpto]
    split
    · have := h x (by simp)
      exact sizeUpto_lim r _ (fun y hy => h y (by simp [hy])) (by omega)
    · exact hn
theorem sizeUpto_top (l : List (List UInt8)) (h : Short l) : sizeUpto l 0 ≤ 281474977710657 := by
  refine sizeUpto_lim l 0 (fun x hx => ?_) (by omega)
  obtain ⟨i, hi, rfl⟩ := List.getElem_of_mem hx
  have := h i
  rwa [List.getD_eq_getElem?_getD, List.getElem?_eq_getElem hi] at this

set_option maxHeartbeats 4000000 in
set_option maxRecDepth 100000 in
theorem frameLays_any (p : Option Addr) (len cap : Nat) (ls : List (List UInt8)) (b : ByteArray) (w : World) (hs : SRow w p len ls ∧ Short ls ∧ len ≤ 140737488351232 ∧ len ≤ cap) (hb : b.size ≤ 140737488351232) :
    Calls Try.prog 4 #[.slice p len cap, .string b] w fun e w' => e = .returned (.bool true) ∧ Below w.heap.size w w' := by
  obtain ⟨hR, hS, hm, hcap⟩ := hs
  replace hR := Lib.hid hR
  replace hS := Lib.hid hS
  go_enter Try.func4, Try.ntmps4
  go_wp2_with fail
  refine (awake_any _).mono ?_
  rintro e w1 ⟨rfl, hb1⟩
  have hR1 := hR.out.kept hb1
  replace hb1 := Lib.hid hb1
  have hsz := size_any p len cap ls w1 hR1 (by omega) hS.out
  replace hR1 := Lib.hid hR1
  by_cases htot : sizeUpto ls 0 + b.size ≤ 4000
  · have ht : tot ls ≤ 4000 := by
      rcases Nat.lt_or_ge 4000 (tot ls) with h | h
      · have := sizeUpto_big ls 0 (by omega); omega
      · exact h
    have hgz : ¬ (4000 : Int) < ((sizeUpto ls 0 : Nat) : Int) + (b.size : Int) := by omega
    have hbs : b.size ≤ 4000 := by omega
    generalize sizeUpto ls 0 = z at *
    have cA := all_any p len cap ls w1 hR1.out (by omega)
    have cR := fun w h => allR_any p len cap ls w h ht
    obtain ⟨F, hF⟩ : ∃ F : ByteArray, (⟨(frames ls).toArray⟩ : ByteArray) = F := ⟨_, rfl⟩
    rw [hF] at cA cR
    have hFs : F.size ≤ 36009 := by
      rw [← hF, mk_size]
      have := frames_part ls ls.length (by omega)
      rwa [List.take_length] at this
    obtain ⟨C, hC⟩ : ∃ C : ByteArray, F ++ b = C := ⟨_, rfl⟩
    have hCs : C.size ≤ 40009 := by rw [← hC, append_size]; omega
    have cS := fun w => scan_any C w (by omega)
    have cT := fun w => scanR_any C w (by omega)
    have hfew := scan_few (bl C) ((bl C).length + 1)
    obtain ⟨recs, o, c, hsc⟩ : ∃ recs o c, scan (bl C) = (recs, o, c) := ⟨_, _, _, rfl⟩
    rw [hsc] at cS cT
    have hfew2 : recs.length ≤ 40009 := by
      have h : (scan (bl C)).1.length ≤ (bl C).length := hfew
      rw [hsc, bl_length] at h
      exact Nat.le_trans h hCs
    replace hF := Lib.hid hF
    replace hsc := Lib.hid hsc
    replace hfew := Lib.hid hfew
    replace cA := Lib.hid cA
    replace cR := Lib.hid cR
    replace cS := Lib.hid cS
    replace cT := Lib.hid cT
    replace hsz := Lib.hid hsz
    go_wp2_with fail
    refine hsz.out.mono ?_
    rintro e w1' ⟨rfl, rfl⟩
    go_wp2_with fail
    with_reducible refine cA.out.mono ?_
    rintro e w2 ⟨rfl, h2⟩
    have b2 := hb1.out.trans (h2.mono hb1.out.size)
    have hR2 := hR1.out.kept h2
    clear h2
    replace hR2 := Lib.hid hR2
    replace b2 := Lib.hid b2
    go_wp2_with fail
    with_reducible refine (cR.out _ hR2.out).mono ?_
    rintro e w3 ⟨rfl, h3⟩
    have b3 := b2.out.trans (h3.mono b2.out.size)
    clear h3
    replace b3 := Lib.hid b3
    go_wp2_with fail
    with_reducible refine (cS.out _).mono ?_
    rintro e w4 ⟨⟨v, rfl, hown⟩, h4⟩
    have b4 := b3.out.trans (h4.mono b3.out.size)
    clear h4
    replace b4 := Lib.hid b4
    obtain ⟨n, hn⟩ : ∃ n, recs.length = n := ⟨_, rfl⟩
    obtain ⟨p1, cap1, rfl, hQ⟩ := hown.rowM hn
    clear hown
    replace hQ := Lib.hid hQ
    have hn2 : n ≤ 40009 := by omega
    replace hn := Lib.hid hn
    go_wp2_with fail
    with_reducible refine (cT.out _).mono ?_
    rintro e w5 ⟨⟨v, rfl, hown⟩, h5⟩
    have b5 := b4.out.trans (h5.mono b4.out.size)
    have hQ5 := hQ.out.kept h5
    clear h5
    replace b5 := Lib.hid b5
    obtain ⟨p2, cap2, rfl, hP⟩ := hown.rowM hn.out
    clear hown
    have hsame := same_any p1 p2 n n cap1 cap2 recs recs w5 hQ5 hP (by omega)
    rw [decide_eq_true rfl] at hsame
    clear hQ5 hP
    replace hsame := Lib.hid hsame
    go_wp2_with fail
    with_reducible refine hsame.out.mono ?_
    rintro e w7 ⟨rfl, n7, rfl⟩
    go_wp2_with fail
    go_ret
    exact ⟨rfl, below_dn b5.out n7⟩
  · have hgz : (4000 : Int) < ((sizeUpto ls 0 : Nat) : Int) + (b.size : Int) := by omega
    have hup := sizeUpto_top ls hS.out
    generalize sizeUpto ls 0 = z at *
    replace hsz := Lib.hid hsz
    go_wp2_with fail
    refine hsz.out.mono ?_
    rintro e w1' ⟨rfl, rfl⟩
    go_wp2_with fail
    go_ret
    exact ⟨rfl, hb1.out⟩
end Go.Proofs.Ytipcnjmlkddaaaa
