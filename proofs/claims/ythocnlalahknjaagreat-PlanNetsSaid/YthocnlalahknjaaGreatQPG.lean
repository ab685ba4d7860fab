/- The contract of missing: what dues of one member and currency are together, less what it paid. -/
import Derived.Test.YthocnlalahknjaaGreatQPF
import Derived.Test.YthocnlalahknjaaGreatQSc
namespace Go.Proofs.YthocnlalahknjaaGreat.Dd
open Go.RowKit Go.Maps
set_option linter.unusedVariables false

/-- what dues are together -/
def sumN (l : List Du) : Int := sumL (l.map (·.n))
theorem sumN_nonneg {l : List Du} (h : ∀ d ∈ l, 1 ≤ d.n) : 0 ≤ sumN l := by
  unfold sumN
  induction l with
  | nil => exact Int.le_refl _
  | cons x r ih =>
    have h1 := h x (by simp)
    have h2 := ih fun d hd => h d (by simp [hd])
    show 0 ≤ x.n + sumL (r.map (·.n))
    omega
theorem payOf_nonneg (rows : List (List Int)) (m c : Nat) : 0 ≤ payOf rows m c := by unfold payOf; omega
theorem payOf_amt {w : World} {v : Value} {rows : List (List Int)} (h : NSeq w v rows) (m c : Nat) : payOf rows m c ≤ 9223372036854775807 := by
  unfold payOf
  obtain ⟨a, cap, rfl, rfl | ⟨b, off, rfl, hlt, hall⟩⟩ := h
  · simp
  · by_cases hm : m < rows.length
    · obtain ⟨p, c2, _, hs⟩ := hall m hm
      have := (hs.2.1 c).2
      have e : rows.getD m [] = rows[m] := by rw [List.getD_eq_getElem?_getD, List.getElem?_eq_getElem hm]; rfl
      rw [e]; omega
    · have e : rows.getD m [] = [] := by rw [List.getD_eq_getElem?_getD, List.getElem?_eq_none (by omega)]; rfl
      rw [e]; simp

set_option maxHeartbeats 4000000 in
set_option maxRecDepth 100000 in
theorem missing_any (b off cap : Nat) (d : Du) (r : List Du) (pv : Value) (rows : List (List Int)) (mm cc : Nat) (w : World) (hlt : b < w.heap.size) (hl : (d :: r).length ≤ 1000000)
    (hall : ∀ i (h : i < (d :: r).length) j u, (d :: r)[i].cs[j]? = some u → w.cell? ⟨b, off + i * 4 + j, none⟩ = some u)
    (hamt : ∀ x ∈ d :: r, 1 ≤ x.n ∧ x.n ≤ 9223372036854775807) (hp : NSeq w pv rows) (hrl : rows.length ≤ 4611686018427387904) (hdm : d.m = (mm : Int)) (hdc : d.c = (cc : Int)) (hmm : (mm : Int) ≤ 9223372036854775807) (hcc : (cc : Int) ≤ 9223372036854775807) :
    Calls Tryz.prog 42 #[.slice (some ⟨b, off, none⟩) (d :: r).length cap, pv] w fun e w' => e = .returned (.tuple #[.int .i64 (if sumN (d :: r) ≤ 9223372036854775807 then sumN (d :: r) - payOf rows mm cc else 0), .int .i64 (if sumN (d :: r) ≤ 9223372036854775807 then 0 else 3)]) ∧ Below w.heap.size w w' := by
  have hS0 := sumN_nonneg fun x hx => (hamt x hx).1
  have hp0 := payOf_nonneg rows mm cc
  have hp1 := payOf_amt hp mm cc
  obtain ⟨n, hn⟩ : ∃ n, n = (d :: r).length := ⟨_, rfl⟩
  have hn0 : 0 < n := by rw [hn]; simp
  have hns : (fun i => (((d :: r).map (·.n)).getD i 0)) = fun i => (((d :: r).map (·.n)).getD i 0) := rfl
  have hfin := laidBy_all ((d :: r).map (·.n))
  rw [List.length_map, ← hn] at hfin
  have hat : ∀ i, i < n → ((d :: r).map (·.n)).getD i 0 = ((d :: r)[i]?.getD default).n := fun i hi => by
    have hi' : i < (d :: r).length := by omega
    rw [List.getD_eq_getElem?_getD, List.getElem?_map, List.getElem?_eq_getElem hi']; rfl
  have hamt2 : ∀ i, Amt (((d :: r).map (·.n)).getD i 0) := fun i => by
    rw [List.getD_eq_getElem?_getD, List.getElem?_map]
    cases h : (d :: r)[i]? with
    | none => exact ⟨by decide, by decide⟩
    | some x => have := hamt x (List.mem_of_getElem? h); show Amt x.n; unfold Amt; omega
  rw [← hn] at hl ⊢
  have z0 : (0 : Int) < (n : Int) := by omega
  have mk50 := make22 n hl
  generalize hZ : zeros n = Z at *
  have hz0 : YthocnlalahknjaaGreat.IRow 2 (w.alloc (.cells Z 2)) w.heap.size (laidBy (fun i => (((d :: r).map (·.n)).getD i 0)) n 0) := by
    rw [laidBy_zero, ← hZ]; exact YthocnlalahknjaaGreat.IRow.made 2 w n
  have hba : Below w.heap.size w (w.alloc (.cells Z 2)) := (Below.refl _ _).alloc (Nat.le_refl _) _
  obtain ⟨S, hS⟩ : ∃ S, S = sumN (d :: r) := ⟨_, rfl⟩
  rw [← hS] at hS0 ⊢
  obtain ⟨f, hf⟩ : ∃ f : Nat → Int, f = fun i => (((d :: r).map (·.n)).getD i 0) := ⟨_, rfl⟩
  rw [← hf] at hz0 hfin
  obtain ⟨RV, hRV⟩ : ∃ RV, RV = (if S ≤ 9223372036854775807 then S - payOf rows mm cc else 0) := ⟨_, rfl⟩
  obtain ⟨RE, hRE⟩ : ∃ RE : Int, RE = (if S ≤ 9223372036854775807 then 0 else 3) := ⟨_, rfl⟩
  rw [← hRV, ← hRE]
  replace hRV := Lib.hid hRV
  replace hRE := Lib.hid hRE
  replace hall := Lib.hid hall
  replace hamt2 := Lib.hid hamt2
  replace hz0 := Lib.hid hz0
  replace hba := Lib.hid hba
  replace hfin := Lib.hid hfin
  replace hp := Lib.hid hp
  replace hS := Lib.hid hS
  replace hf := Lib.hid hf
  replace hat := Lib.hid hat
  replace hn := Lib.hid hn
  clear hZ hamt hns
  go_enter Tryz.func42, Tryz.ntmps42
  go_wp2_with fail
  go_loopw [16] (fun i wr => ∃ k : Nat, k ≤ n ∧ i = .int .i64 (k : Int) ∧ Hid (YthocnlalahknjaaGreat.IRow 2 wr w.heap.size (laidBy f n k) ∧ Below w.heap.size w wr)) (fun i _ => n - (intOf i).toNat)
  case atStart => exact ⟨0, by omega, rfl, Lib.hid ⟨hz0.out, hba.out⟩⟩
  case round =>
    obtain ⟨k, hk, rfl, hT⟩ := hrel
    obtain ⟨hrow, hbel⟩ := hT.out
    have hgw : w.heap.size < wr.heap.size := hrow.lt
    by_cases hkn : k < n
    · have hkl : k < (d :: r).length := by have := hn.out; omega
      have e0 := (hbel.cell (p := ⟨b, off + k * 4 + 0, none⟩) hlt).trans (hall.out k hkl 0 _ rfl)
      have e1 := (hbel.cell (p := ⟨b, off + k * 4 + 1, none⟩) hlt).trans (hall.out k hkl 1 _ rfl)
      have e2 := (hbel.cell (p := ⟨b, off + k * 4 + 2, none⟩) hlt).trans (hall.out k hkl 2 _ rfl)
      have e3 := (hbel.cell (p := ⟨b, off + k * 4 + 3, none⟩) hlt).trans (hall.out k hkl 3 _ rfl)
      rw [Nat.add_zero] at e0
      have hblr : b < wr.heap.size := by omega
      have hfk : f k = (d :: r)[k].n := by
        rw [hf.out]; show ((d :: r).map (·.n)).getD k 0 = _
        rw [hat.out k hkn, List.getElem?_eq_getElem hkl]; rfl
      generalize (d :: r)[k] = x at *
      have hrow2 : ∀ o, YthocnlalahknjaaGreat.IRow 2 (wr.alloc o) w.heap.size (laidBy f n k) := fun o => hrow.alloc o
      have cW : ∀ o, (wr.alloc o).cell? ⟨w.heap.size, k, none⟩ = some (.int .i64 ((laidBy f n k).getD k 0)) := fun o => (hrow2 o).cell (i := k) (by rw [laidBy_length]; exact hkn)
      have fW : ∀ o, (wr.alloc o).frozen? ⟨w.heap.size, k, none⟩ = false := fun o => (hrow2 o).free (i := k)
      generalize (laidBy f n k).getD k 0 = y0 at cW
      have hnext : ∀ o, YthocnlalahknjaaGreat.IRow 2 ((wr.setCell ⟨w.heap.size, k, none⟩ (.int .i64 x.n)).alloc o) w.heap.size (laidBy f n (k + 1)) ∧ Below w.heap.size w ((wr.setCell ⟨w.heap.size, k, none⟩ (.int .i64 x.n)).alloc o) := fun o => by
        have hs2 := hbel.setCell (p := ⟨w.heap.size, k, none⟩) (Nat.le_refl _) (.int .i64 x.n)
        refine ⟨?_, hs2.alloc hs2.size o⟩
        rw [← laidBy_set f n k hkn, hfk]
        exact (hrow.set x.n).alloc o
      replace hnext := Lib.hid hnext
      replace hrow := Lib.hid hrow
      replace hbel := Lib.hid hbel
      replace hrow2 := Lib.hid hrow2
      replace hfk := Lib.hid hfk
      clear hT
      go_wp2_with fail
      go_roundw
      case rel => exact ⟨k + 1, by omega, by go_num, Lib.hid (hnext.out _)⟩
      case measure => simp [intOf]; omega
    · obtain rfl : k = n := by omega
      have hkz : ¬ (k : Int) < (k : Int) := by omega
      rw [hfin.out] at hrow
      have hsq := hrow.seq (n := k) (by rw [List.length_map]; exact hn.out.symm) (by omega) hamt2.out
      have hsum := sum_any (some ⟨w.heap.size, 0, none⟩) k k _ wr hsq
      have hSs : sumL ((d :: r).map (·.n)) = S := hS.out.symm
      rw [hSs] at hsum
      have e0 := (hbel.cell (p := ⟨b, off + 0 * 4 + 0, none⟩) hlt).trans (hall.out 0 (by simp) 0 _ rfl)
      have e1 := (hbel.cell (p := ⟨b, off + 0 * 4 + 1, none⟩) hlt).trans (hall.out 0 (by simp) 1 _ rfl)
      simp only [Nat.zero_mul, Nat.add_zero, List.getElem_cons_zero, hdm, hdc] at e0 e1
      have hpw := hp.out.kept hbel
      replace hsum := Lib.hid hsum
      replace hpw := Lib.hid hpw
      replace hbel := Lib.hid hbel
      clear hrow hsq hSs hT
      by_cases hSm : S ≤ 9223372036854775807
      · have hV : fitV S = S := by unfold fitV; rw [if_pos ⟨by omega, hSm⟩]
        have hE : fitE S = 0 := by unfold fitE; rw [if_pos ⟨by omega, hSm⟩]
        have q1 := hRV.out
        have q2 := hRE.out
        rw [if_pos hSm] at q1 q2
        clear hRV hRE
        rw [hV, hE] at hsum
        have hV2 : fitV (S - payOf rows mm cc) = S - payOf rows mm cc := by unfold fitV; rw [if_pos ⟨by omega, by omega⟩]
        have hE2 : fitE (S - payOf rows mm cc) = 0 := by unfold fitE; rw [if_pos ⟨by omega, by omega⟩]
        have hpay := fun W (hW : NSeq W pv rows) => payments_any pv rows mm cc W hW hrl hmm hcc
        have hsub := fun W => sub_any S (payOf rows mm cc) W (by omega) hSm (by omega) hp1
        rw [hV2, hE2] at hsub
        generalize payOf rows mm cc = pay at *
        replace hsub := Lib.hid hsub
        replace hpay := Lib.hid hpay
        replace q1 := Lib.hid q1
        replace q2 := Lib.hid q2
        clear hV hE hV2 hE2
        go_wp2_with fail
        with_reducible refine hsum.out.mono ?_
        rintro e w5 ⟨rfl, hb5⟩
        have e0' := (hb5.cell (p := ⟨b, off, none⟩) (by have := hbel.out.size; show b < _; omega)).trans e0
        have e1' := (hb5.cell (p := ⟨b, off + 1, none⟩) (by have := hbel.out.size; show b < _; omega)).trans e1
        have hpw5 := hpw.out.kept hb5
        replace hpw5 := Lib.hid hpw5
        replace hb5 := Lib.hid hb5
        go_wp2_with fail
        have e0'' : w5.drew.cell? ⟨b, off, none⟩ = some (.int .i64 (mm : Int)) := e0'
        have e1'' : w5.drew.cell? ⟨b, off + 1, none⟩ = some (.int .i64 (cc : Int)) := e1'
        have hpw6 : NSeq w5.drew pv rows := hpw5.out
        replace hpw6 := Lib.hid hpw6
        have hb5' : Below wr.heap.size wr w5.drew := hb5.out.drew
        replace hb5' := Lib.hid hb5'
        go_region_held3 (fun w' => w'.cell? ⟨b, off, none⟩ = some (.int .i64 (mm : Int)) ∧ w'.cell? ⟨b, off + 1, none⟩ = some (.int .i64 (cc : Int))) (first | exact ⟨e0'', e1''⟩ | exact hHeld | exact ⟨(hb6.out.cell (p := ⟨b, off, none⟩) (by have := hbel.out.size; have := hb5'.out.size; show b < _; omega)).trans e0'', (hb6.out.cell (p := ⟨b, off + 1, none⟩) (by have := hbel.out.size; have := hb5'.out.size; show b < _; omega)).trans e1''⟩) (first | (go_at_call 72; (with_reducible refine (hpay.out _ hpw6.out).mono ?_); rintro e w6 ⟨rfl, rfl⟩) | (go_at_call 71; (with_reducible refine (hsub.out _).mono ?_); rintro e w6 ⟨rfl, hb6⟩; replace hb6 := Lib.hid hb6))
        go_wp2_with fail
        go_ret2
        have hb7 := hb5'.out
        exact ⟨by rw [q1.out, q2.out]; rfl, hbel.out.trans ((hb7.trans (hb6.out.mono hb7.size)).mono hbel.out.size)⟩
      · have hV : fitV S = 0 := by unfold fitV; rw [if_neg (by omega)]
        have hE : fitE S = 3 := by unfold fitE; rw [if_neg (by omega)]
        have q1 := hRV.out
        have q2 := hRE.out
        rw [if_neg hSm] at q1 q2
        replace q1 := Lib.hid q1
        replace q2 := Lib.hid q2
        clear hRV hRE
        rw [hV, hE] at hsum
        clear hV hE
        go_wp2_with (go_at_call 19; (with_reducible refine hsum.out.mono ?_); rintro e w5 ⟨rfl, hb5⟩; replace hb5 := Lib.hid hb5)
        go_ret2
        exact ⟨by rw [q1.out, q2.out]; rfl, hbel.out.trans (hb5.out.mono hbel.out.size)⟩
end Go.Proofs.YthocnlalahknjaaGreat.Dd
