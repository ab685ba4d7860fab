/- A turned byte of a record is found: the law's walk. -/
import Derived.Test.YtipcnjmlkddaaaaFrameBack
import Derived.Test.YtipcnjmlkddaaaaB0
namespace Go.Proofs.Ytipcnjmlkddaaaa
open Go.RowKit
set_option linter.unusedVariables false

theorem set_split (x : List UInt8) (r : Nat) (y : UInt8) (h : r < x.length) : x.set r y = x.take r ++ y :: x.drop (r + 1) := by
  rw [List.set_eq_take_append_cons_drop, if_pos h]
theorem get_split (x : List UInt8) (r : Nat) (h : r < x.length) : x = x.take r ++ x[r] :: x.drop (r + 1) := by
  rw [List.getElem_cons_drop, List.take_append_drop]
theorem xor_ne (a b : UInt8) (h : b ≠ 0) : a ^^^ b ≠ a := by
  intro e
  apply h
  have h1 : a ^^^ (a ^^^ b) = a ^^^ a := by rw [e]
  rw [← UInt8.xor_assoc, UInt8.xor_self, UInt8.zero_xor] at h1
  exact h1
theorem crc_set (x : List UInt8) (r : Nat) (y : UInt8) (h : r < x.length) (hy : y ≠ x[r]) : crc (x.set r y) ≠ crc x := by
  intro e
  rw [set_split x r y h] at e
  conv at e => rhs; rw [get_split x r h]
  exact hy (crc_turned _ _ _ _ e)
/-- the frames of a list, about one of its records -/
theorem frames_about (ls : List (List UInt8)) (K : Nat) (hK : K < ls.length) :
    frames ls = frames (ls.take K) ++ (be (ls.getD K []).length ++ (be (crc (ls.getD K [])) ++ (ls.getD K [] ++ frames (ls.drop (K + 1))))) := by
  have e : ls = ls.take (K + 1) ++ ls.drop (K + 1) := (List.take_append_drop _ _).symm
  conv => lhs; rw [e, frames_app, frames_take ls K hK]
  simp [List.append_assoc]
theorem turned_at (ls : List (List UInt8)) (K r : Nat) (b : UInt8) (hK : K < ls.length) (hr : r < (ls.getD K []).length) (hb : b ≠ 0) (h : tot ls ≤ 4000) :
    ∃ v : UInt8, (frames (ls.take K)).length + 8 + r < (frames ls).length ∧ (frames ls)[(frames (ls.take K)).length + 8 + r]? = some v ∧
      scan ((frames ls).set ((frames (ls.take K)).length + 8 + r) (v ^^^ b)) = (ls.take K, (frames (ls.take K)).length, if K + 1 = ls.length then 1 else 2) := by
  have ha := frames_about ls K hK
  have hx := short_of ls K (by omega)
  have hsh : ∀ b ∈ ls.take K, b.length ≤ 65536 := fun b hb => short_all h b (List.mem_of_mem_take hb)
  have hdrop : ls.drop (K + 1) = [] ↔ K + 1 = ls.length := by
    rw [List.drop_eq_nil_iff]; omega
  generalize ls.getD K [] = x at *
  generalize ls.drop (K + 1) = rs at *
  have hlen : (frames ls).length = (frames (ls.take K)).length + 8 + x.length + (frames rs).length := by
    rw [ha]; simp [be_length]; omega
  refine ⟨x[r], by omega, ?_, ?_⟩
  · rw [ha, List.getElem?_append_right (by omega), List.getElem?_append_right (by rw [be_length]; omega), List.getElem?_append_right (by rw [be_length, be_length]; omega), be_length, be_length,
      show (frames (ls.take K)).length + 8 + r - (frames (ls.take K)).length - 4 - 4 = r by omega, List.getElem?_append_left hr, List.getElem?_eq_getElem hr]
  · have e : (frames ls).set ((frames (ls.take K)).length + 8 + r) (x[r] ^^^ b) = frames (ls.take K) ++ (be x.length ++ (be (crc x) ++ (x.set r (x[r] ^^^ b) ++ frames rs))) := by
      rw [ha, List.set_append, if_neg (by omega), List.set_append, if_neg (by rw [be_length]; omega), List.set_append, if_neg (by rw [be_length, be_length]; omega), be_length, be_length,
        show (frames (ls.take K)).length + 8 + r - (frames (ls.take K)).length - 4 - 4 = r by omega, List.set_append, if_pos hr]
    rw [e, scan_turned (ls.take K) rs x (x.set r (x[r] ^^^ b)) hsh (by omega) (by simp) (crc_set x r _ hr (xor_ne _ _ hb))]
    congr 2
    by_cases hk : K + 1 = ls.length
    · rw [if_pos (hdrop.2 hk), if_pos hk]
    · rw [if_neg (fun h => hk (hdrop.1 h)), if_neg hk]

/-- cells of block g hold bytes, and may be written -/
def BCel (w : World) (g : Nat) (l : List UInt8) : Prop := g < w.heap.size ∧ ∀ i v, l[i]? = some v → w.cell? ⟨g, i, none⟩ = some (.int .u8 (v.toNat : Int)) ∧ w.frozen? ⟨g, i, none⟩ = false
theorem bytes_of (s : ByteArray) (w : World) : ∃ cap w4, (convert 9 38 (.string s)).run Try.prog w = .ok (.slice (some ⟨w.heap.size, 0, none⟩) s.size cap) w4 ∧ BCel w4 w.heap.size (bl s) ∧ Below w.heap.size w w4 := by
  refine ⟨_, _, run_bytes_of_string w 9 38 5 s Try.underlying9 Try.underlying38 Try.underlying5, ⟨by show w.heap.size < (World.alloc _ _).heap.size; rw [World.size_alloc]; exact Nat.lt_succ_self _, fun i v hv => ?_⟩, (Below.refl _ _).drew.alloc (Nat.le_refl _) _⟩
  have hi : i < s.size := by
    have := (List.getElem?_eq_some_iff.1 hv).1
    rwa [bl_length] at this
  constructor
  · refine (World.cell?_alloc_mark w.drew _ 5 _ i).trans ?_
    rw [bytesRow_at s _ i hi]
    rw [bl_get s i hi] at hv
    injection hv with hv
    rw [← hv]; rfl
  · refine (World.frozen?_alloc_mark w.drew _ 5 _ _ i).trans ?_
    have : ¬ (bytesRow s (grownCap w s.size 0 5)).size ≤ i := by
      unfold bytesRow
      simp
      have h : s.data.size = s.size := rfl
      omega
    simp [this]
theorem BCel.set {w : World} {g P : Nat} {l : List UInt8} (h : BCel w g l) (hP : P < l.length) (y : UInt8) : BCel (w.setCell ⟨g, P, none⟩ (.int .u8 (y.toNat : Int))) g (l.set P y) := by
  refine ⟨by simpa using h.1, fun i v hv => ?_⟩
  have hi : i < l.length := by
    have := (List.getElem?_eq_some_iff.1 hv).1
    simpa using this
  have hold := h.2 i l[i] (List.getElem?_eq_getElem hi)
  refine ⟨?_, by simp [hold.2]⟩
  by_cases e : P = i
  · subst e
    rw [List.getElem?_set_self hP] at hv
    injection hv with hv
    subst hv
    exact World.cell?_setCell_same _ _ _ hold.1
  · rw [List.getElem?_set_ne e] at hv
    rw [World.cell?_setCell_other _ _ _ _ (fun h => e (by injection h))]
    exact (h.2 i v hv).1
theorem SRow.set_other {w : World} {b off len g j : Nat} {ls : List (List UInt8)} (h : SRow w (some ⟨b, off, none⟩) len ls) (hne : b ≠ g) (u : Value) : SRow (w.setCell ⟨g, j, none⟩ u) (some ⟨b, off, none⟩) len ls := by
  obtain ⟨h1, h2⟩ := h
  refine ⟨h1, h2.imp id ?_⟩
  rintro ⟨b', off', e, hlt, hc⟩
  injection e with e
  injection e with e1 e2
  subst e1; subst e2
  refine ⟨b, off, rfl, by simpa using hlt, fun i hi => ?_⟩
  rw [World.cell?_setCell_other _ _ _ _ (fun h => hne (by injection h with h; exact h.symm))]
  exact hc i hi
theorem BCel.text {w : World} {g n cap : Nat} {l : List UInt8} (h : BCel w g l) (hl : l.length = n) : (convert 38 9 (.slice (some ⟨g, 0, none⟩) n cap)).run Try.prog w = .ok (.string ⟨l.toArray⟩) w := by
  subst hl
  refine run_convert_bytes_back w 38 9 5 ⟨g, 0, none⟩ cap l Try.underlying38 Try.underlying5 Try.underlying9 (fun j hj => ?_)
  have ha : (⟨g, 0, none⟩ : Addr).add j = ⟨g, j, none⟩ := by unfold Addr.add; split <;> simp_all
  rw [ha, (h.2 j l[j] (List.getElem?_eq_getElem hj)).1]

set_option maxHeartbeats 4000000 in
set_option maxRecDepth 100000 in
theorem frameTurned_main (p : Option Addr) (len cap K r : Nat) (ls : List (List UInt8)) (t : Nat) (b : UInt8) (w : World) (hR : SRow w p len ls) (hS : Short ls) (hm : len ≤ 140737488351232) (hcap : len ≤ cap) (ht : t ≤ 65535)
    (htot : tot ls ≤ 4000) (hl0 : 0 < len) (hb : b ≠ 0) (hKd : K = t % len) (hx0 : 0 < (ls.getD K []).length) (hrd : r = t / 7 % (ls.getD K []).length) :
    Calls Try.prog 6 #[.slice p len cap, .int .u16 (t : Int), .int .u8 (b.toNat : Int)] w fun e w' => e = .returned (.bool true) ∧ Below w.heap.size w w' := by
  have hll := hR.1
  have hKlt : K < len := by rw [hKd]; exact Nat.mod_lt _ hl0
  have hr : r < (ls.getD K []).length := by rw [hrd]; exact Nat.mod_lt _ hx0
  obtain ⟨v, hP, hv, hscan⟩ := turned_at ls K r b (by omega) hr hb htot
  have hfl := frames_le ls htot
  have hfk := frames_part ls K (by omega)
  have hx := short_of ls K (by omega)
  have hKz : (t : Int) % (len : Int) = (K : Int) := by rw [hKd]; rfl
  have hrz : (t : Int) / 7 % ((ls.getD K []).length : Int) = (r : Int) := by rw [hrd]; rfl
  have e0 := sizeUpto_all ls 0 (by omega)
  rw [Nat.zero_add] at e0
  have htk : tot (ls.take K) ≤ 4000 := by
    have h3 := tot_app (ls.take K) (ls.drop K)
    rw [List.take_append_drop] at h3
    omega
  have hb0 : ((b.toNat : Int) == 0) = false := by
    have : b.toNat ≠ 0 := fun h => hb (UInt8.toNat_inj.mp h)
    simp; omega
  have hl0z : ((len : Int) == 0) = false := by simp; omega
  have hlz : (0 : Int) < (len : Int) := by omega
  have hKlz : (K : Int) < (len : Int) := by omega
  have hKc : (K : Int) ≤ (cap : Int) := by omega
  replace hR := Lib.hid hR
  replace hS := Lib.hid hS
  go_enter Try.func6, Try.ntmps6
  go_wp2_with fail
  refine (awake_any _).mono ?_
  rintro e w1 ⟨rfl, hb1⟩
  have hR1 := hR.out.kept hb1
  replace hb1 := Lib.hid hb1
  have hsz := size_any p len cap ls w1 hR1 (by omega) hS.out
  rw [e0] at hsz
  have hgz : ¬ (4000 : Int) < (tot ls : Int) := by omega
  generalize hT : tot ls = T at *
  replace hT := Lib.hid hT
  replace hsz := Lib.hid hsz
  replace e0 := Lib.hid e0
  obtain ⟨bA, off, rfl, hblt, hc⟩ := hR1.2.resolve_left (by omega)
  have c0 := hc K hKlt
  replace hR1 := Lib.hid hR1
  replace hc := Lib.hid hc
  have hxl : ((⟨(ls.getD K []).toArray⟩ : ByteArray)).size = (ls.getD K []).length := mk_size _
  generalize hxd : ls.getD K [] = x at *
  replace hxd := Lib.hid hxd
  generalize x.length = m at *
  have hm0 : ((m : Int) == 0) = false := by simp; omega
  have hmz : (0 : Int) < (m : Int) := by omega
  replace hrd := Lib.hid hrd
  replace hKd := Lib.hid hKd
  replace hv := Lib.hid hv
  replace hscan := Lib.hid hscan
  replace hll := Lib.hid hll
  replace hb := Lib.hid hb
  go_wp2_with fail
  refine hsz.out.mono ?_
  rintro e w1' ⟨rfl, rfl⟩
  have cA := all_any (some ⟨bA, off, none⟩) len cap ls w1 hR1.out (by rw [hT.out]; omega)
  obtain ⟨S, hSd⟩ : ∃ S : ByteArray, (⟨(frames ls).toArray⟩ : ByteArray) = S := ⟨_, rfl⟩
  obtain ⟨D, hDd⟩ : ∃ D : ByteArray, (⟨(frames (ls.take K)).toArray⟩ : ByteArray) = D := ⟨_, rfl⟩
  have bS : bl S = frames ls := by rw [← hSd, bl_mk]
  have sS : S.size = (frames ls).length := by rw [sz, bS]
  have sD : D.size = (frames (ls.take K)).length := by rw [← hDd, mk_size]
  rw [hSd] at cA
  replace cA := Lib.hid cA
  go_wp2_with fail
  with_reducible refine cA.out.mono ?_
  rintro e w2 ⟨rfl, h2⟩
  have hR2 := hR1.out.kept h2
  have b2 := hb1.out.trans (h2.mono hb1.out.size)
  have c02 : w2.cell? ⟨bA, off + K, none⟩ = some (.string ⟨x.toArray⟩) := by
    rw [h2.cell (p := ⟨bA, off + K, none⟩) hblt]; exact c0
  have cB := all_any (some ⟨bA, off, none⟩) K cap (ls.take K) w2 (hR2.take K (by omega)) (by omega)
  rw [hDd] at cB
  clear h2 c0
  replace hR2 := Lib.hid hR2
  replace b2 := Lib.hid b2
  replace cB := Lib.hid cB
  generalize hA : (frames (ls.take K)).length = A at *
  generalize hN : (frames ls).length = N at *
  replace hA := Lib.hid hA
  replace hN := Lib.hid hN
  have hAN : ¬ (N : Int) < (A : Int) + 9 := by omega
  go_wp2_with fail
  with_reducible refine cB.out.mono ?_
  rintro e w3 ⟨rfl, h3⟩
  have hR3 := hR2.out.kept h3
  have b3 := b2.out.trans (h3.mono b2.out.size)
  have c03 : w3.cell? ⟨bA, off + K, none⟩ = some (.string ⟨x.toArray⟩) := by
    rw [h3.cell (p := ⟨bA, off + K, none⟩) (by have := World.block_lt_of_cell? _ _ c02; exact this)]; exact c02
  clear h3 c02
  replace hR3 := Lib.hid hR3
  replace b3 := Lib.hid b3
  obtain ⟨cap4, w4, hconv, hcel, h4⟩ := bytes_of S w3
  have hR4 := hR3.out.kept h4
  have b4 := b3.out.trans (h4.mono b3.out.size)
  have c04 : w4.cell? ⟨bA, off + K, none⟩ = some (.string ⟨x.toArray⟩) := by
    rw [h4.cell (p := ⟨bA, off + K, none⟩) (by have := World.block_lt_of_cell? _ _ c03; exact this)]; exact c03
  have hg3 : w.heap.size ≤ w3.heap.size := b3.out.size
  have hne : bA ≠ w3.heap.size := by have := World.block_lt_of_cell? _ _ c03; simp only at this; omega
  clear h4 c03
  generalize w3.heap.size = g at *
  replace hR4 := Lib.hid hR4
  replace b4 := Lib.hid b4
  have hvv := hv.out
  rw [← bS] at hvv
  have hcv := hcel.2 _ _ hvv
  have hcc := hcv.1
  have hcf := hcv.2
  clear hcv
  replace hcel := Lib.hid hcel
  replace hvv := Lib.hid hvv
  replace bS := Lib.hid bS
  have x1 := xor_u8 v.toNat b.toNat v.toNat_lt b.toNat_lt
  rw [← UInt8.toNat_xor] at x1
  have hsc := hscan.out
  rw [hll.out] at hsc
  generalize v ^^^ b = y at *
  have q0 : (0 : Int) ≤ (A : Int) + 8 + (r : Int) := by omega
  have q1 : (A : Int) + 8 + (r : Int) < (N : Int) := by omega
  have hlS : (bl S).length = N := by rw [bl_length, sS]
  have hcel5 := hcel.out.set (P := A + 8 + r) (by rw [hlS]; exact hP) y
  have hback := hcel5.text (n := N) (cap := cap4) (by rw [List.length_set, hlS])
  have hR5 := hR4.out.set_other (j := A + 8 + r) hne (.int .u8 (y.toNat : Int))
  have b5 := b4.out.setCell (p := ⟨g, A + 8 + r, none⟩) hg3 (.int .u8 (y.toNat : Int))
  obtain ⟨Z, hZ⟩ : ∃ Z : ByteArray, (⟨((bl S).set (A + 8 + r) y).toArray⟩ : ByteArray) = Z := ⟨_, rfl⟩
  have bZ : bl Z = (frames ls).set (A + 8 + r) y := by rw [← hZ, bl_mk, bS.out]
  have sZ : Z.size = N := by rw [sz, bZ, List.length_set, hN.out]
  have cS := fun w => scan_any Z w (by omega)
  rw [bZ, hsc] at cS
  rw [hZ] at hback
  replace hZ := Lib.hid hZ
  replace bZ := Lib.hid bZ
  replace sZ := Lib.hid sZ
  replace hsc := Lib.hid hsc
  replace cS := Lib.hid cS
  replace hcel5 := Lib.hid hcel5
  replace hlS := Lib.hid hlS
  replace hR5 := Lib.hid hR5
  replace b5 := Lib.hid b5
  replace hSd := Lib.hid hSd
  replace hDd := Lib.hid hDd
  go_wp2_with fail
  with_reducible refine (cS.out _).mono ?_
  rintro e w6 ⟨⟨v, rfl, hown⟩, h6⟩
  have hR6 := hR5.out.kept h6
  have b6 := b5.out.trans (h6.mono b5.out.size)
  obtain ⟨p1, cap1, rfl, hQ⟩ := hown.rowN (n := K) (by rw [List.length_take, hll.out]; omega)
  have hsame := same_any p1 (some ⟨bA, off, none⟩) K K cap1 cap (ls.take K) (ls.take K) w6 hQ (hR6.take K (by omega)) (by omega)
  rw [decide_eq_true rfl] at hsame
  clear h6 hown hQ hback hcc hcf hconv c04
  replace b6 := Lib.hid b6
  replace hsame := Lib.hid hsame
  replace hR6 := Lib.hid hR6
  by_cases hlast : K + 1 = len
  · have hkz : ((K : Int) == (len : Int) - 1) = true := by simp; omega
    rw [if_pos hlast]
    replace hlast := Lib.hid hlast
    go_wp2_with fail
    with_reducible refine hsame.out.mono ?_
    rintro e w7 ⟨rfl, n7, rfl⟩
    go_wp2_with fail
    go_ret
    exact ⟨rfl, below_dn b6.out n7⟩
  · have hkz : ((K : Int) == (len : Int) - 1) = false := by simp; omega
    rw [if_neg hlast]
    replace hlast := Lib.hid hlast
    go_wp2_with fail
    with_reducible refine hsame.out.mono ?_
    rintro e w7 ⟨rfl, n7, rfl⟩
    go_wp2_with fail
    go_ret
    exact ⟨rfl, below_dn b6.out n7⟩

set_option maxHeartbeats 4000000 in
set_option maxRecDepth 100000 in
theorem frameTurned_any (p : Option Addr) (len cap : Nat) (ls : List (List UInt8)) (at_ by_ : Int) (w : World) (hs : SRow w p len ls ∧ Short ls ∧ len ≤ 140737488351232 ∧ len ≤ cap) (hat : 0 ≤ at_ ∧ at_ ≤ 65535) (hby : 0 ≤ by_ ∧ by_ ≤ 255) :
    Calls Try.prog 6 #[.slice p len cap, .int .u16 at_, .int .u8 by_] w fun e w' => e = .returned (.bool true) ∧ Below w.heap.size w w' := by
  obtain ⟨hR, hS, hm, hcap⟩ := hs
  obtain ⟨t, rfl⟩ := Int.eq_ofNat_of_zero_le hat.1
  obtain ⟨c, rfl⟩ := Int.eq_ofNat_of_zero_le hby.1
  have hcb : ((UInt8.ofNat c).toNat : Int) = (c : Int) := by
    have : (UInt8.ofNat c).toNat = c % 256 := UInt8.toNat_ofNat'
    omega
  by_cases hmain : tot ls ≤ 4000 ∧ 0 < len ∧ c ≠ 0 ∧ 0 < (ls.getD (t % len) []).length
  · obtain ⟨h1, h2, h3, h4⟩ := hmain
    have h := frameTurned_main p len cap (t % len) _ ls t (UInt8.ofNat c) w hR hS hm hcap (by omega) h1 h2 (fun e => h3 (by have := congrArg UInt8.toNat e; simp at this; omega)) rfl h4 rfl
    rwa [hcb] at h
  · have hll := hR.1
    replace hcb := Lib.hid hcb
    replace hR := Lib.hid hR
    replace hS := Lib.hid hS
    go_enter Try.func6, Try.ntmps6
    go_wp2_with fail
    refine (awake_any _).mono ?_
    rintro e w1 ⟨rfl, hb1⟩
    have hR1 := hR.out.kept hb1
    replace hb1 := Lib.hid hb1
    have hsz := size_any p len cap ls w1 hR1 (by omega) hS.out
    by_cases htot : tot ls ≤ 4000
    · have e0 := sizeUpto_all ls 0 (by omega)
      rw [Nat.zero_add] at e0
      rw [e0] at hsz
      have hgz : ¬ (4000 : Int) < (tot ls : Int) := by omega
      generalize hT : tot ls = T at *
      replace hsz := Lib.hid hsz
      replace e0 := Lib.hid e0
      replace hT := Lib.hid hT
      by_cases hl0 : len = 0
      · subst hl0
        replace hmain := Lib.hid hmain
        replace hll := Lib.hid hll
        replace hR1 := Lib.hid hR1
        go_wp2_with fail
        refine hsz.out.mono ?_
        rintro e w1' ⟨rfl, rfl⟩
        go_wp2_with fail
        go_ret
        exact ⟨rfl, hb1.out⟩
      · have hl0z : ((len : Int) == 0) = false := by simp; omega
        by_cases hc0 : c = 0
        · subst hc0
          replace hmain := Lib.hid hmain
          replace hll := Lib.hid hll
          replace hR1 := Lib.hid hR1
          replace hl0 := Lib.hid hl0
          go_wp2_with fail
          refine hsz.out.mono ?_
          rintro e w1' ⟨rfl, rfl⟩
          go_wp2_with fail
          go_ret
          exact ⟨rfl, hb1.out⟩
        · have hc0z : ((c : Int) == 0) = false := by simp; omega
          have hx0 : (ls.getD (t % len) []).length = 0 := by
            rcases Nat.eq_zero_or_pos (ls.getD (t % len) []).length with h | h
            · exact h
            · exact absurd ⟨htot, by omega, hc0, h⟩ hmain
          have hKlt : t % len < len := Nat.mod_lt _ (by omega)
          have hKz : (t : Int) % (len : Int) = ((t % len : Nat) : Int) := rfl
          obtain ⟨bA, off, rfl, hblt, hc⟩ := hR1.2.resolve_left (by omega)
          have c0 := hc (t % len) hKlt
          have hxl : ((⟨(ls.getD (t % len) []).toArray⟩ : ByteArray)).size = 0 := by rw [mk_size]; exact hx0
          generalize hxd : ls.getD (t % len) [] = x at *
          generalize hKd : t % len = K at *
          have hlz : (0 : Int) < (len : Int) := by omega
          have hKlz : (K : Int) < (len : Int) := by omega
          replace hmain := Lib.hid hmain
          replace hll := Lib.hid hll
          replace hR1 := Lib.hid hR1
          replace hl0 := Lib.hid hl0
          replace hc := Lib.hid hc
          replace hxd := Lib.hid hxd
          replace hx0 := Lib.hid hx0
          replace hKd := Lib.hid hKd
          replace hc0 := Lib.hid hc0
          go_wp2_with fail
          refine hsz.out.mono ?_
          rintro e w1' ⟨rfl, rfl⟩
          go_wp2_with fail
          go_ret
          exact ⟨rfl, hb1.out⟩
    · have hbig := sizeUpto_big ls 0 (by omega)
      generalize sizeUpto ls 0 = z at *
      have hgz : (4000 : Int) < (z : Int) := by omega
      replace hsz := Lib.hid hsz
      replace hmain := Lib.hid hmain
      replace hll := Lib.hid hll
      replace hR1 := Lib.hid hR1
      replace htot := Lib.hid htot
      go_wp2_with fail
      refine hsz.out.mono ?_
      rintro e w1' ⟨rfl, rfl⟩
      go_wp2_with fail
      go_ret
      exact ⟨rfl, hb1.out⟩
end Go.Proofs.Ytipcnjmlkddaaaa
