/- The contract of missing: what dues of one member and currency are together, less what it paid.
  The contract of Behind. -/
import Derived.Test.YthocnlalahknjaaGreatQPbb
import Derived.Test.YthocnlalahknjaaGreatQSc
namespace Go.Proofs.YthocnlalahknjaaGreat.Dd
open Go.RowKit Go.Maps
set_option linter.unusedVariables false

/-- what dues are together -/
def sumN (l : List Du) : Int := sumL (l.map (·.n))
theorem sumN_nonneg {l : List Du} (h : ∀ d ∈ l, 1 ≤ d.n) : 0 ≤ sumN l := by
  unfold sumN
  induction l with
  | nil => exact Int.le_refl _
  | cons x r ih =>
    have h1 := h x (by simp)
    have h2 := ih fun d hd => h d (by simp [hd])
    show 0 ≤ x.n + sumL (r.map (·.n))
    omega
theorem payOf_nonneg (rows : List (List Int)) (m c : Nat) : 0 ≤ payOf rows m c := by unfold payOf; omega
theorem payOf_amt {w : World} {v : Value} {rows : List (List Int)} (h : NSeq w v rows) (m c : Nat) : payOf rows m c ≤ 9223372036854775807 := by
  unfold payOf
  obtain ⟨a, cap, rfl, rfl | ⟨b, off, rfl, hlt, hall⟩⟩ := h
  · simp
  · by_cases hm : m < rows.length
    · obtain ⟨p, c2, _, hs⟩ := hall m hm
      have := (hs.2.1 c).2
      have e : rows.getD m [] = rows[m] := by rw [List.getD_eq_getElem?_getD, List.getElem?_eq_getElem hm]; rfl
      rw [e]; omega
    · have e : rows.getD m [] = [] := by rw [List.getD_eq_getElem?_getD, List.getElem?_eq_none (by omega)]; rfl
      rw [e]; simp

set_option maxHeartbeats 4000000 in
set_option maxRecDepth 100000 in
theorem missing_any (b off cap : Nat) (d : Du) (r : List Du) (pv : Value) (rows : List (List Int)) (mm cc : Nat) (w : World) (hlt : b < w.heap.size) (hl : (d :: r).length ≤ 1000000)
    (hall : ∀ i (h : i < (d :: r).length) j u, (d :: r)[i].cs[j]? = some u → w.cell? ⟨b, off + i * 4 + j, none⟩ = some u)
    (hamt : ∀ x ∈ d :: r, 1 ≤ x.n ∧ x.n ≤ 9223372036854775807) (hp : NSeq w pv rows) (hrl : rows.length ≤ 4611686018427387904) (hdm : d.m = (mm : Int)) (hdc : d.c = (cc : Int)) (hmm : (mm : Int) ≤ 9223372036854775807) (hcc : (cc : Int) ≤ 9223372036854775807) :
    Calls Tryz.prog 42 #[.slice (some ⟨b, off, none⟩) (d :: r).length cap, pv] w fun e w' => e = .returned (.tuple #[.int .i64 (if sumN (d :: r) ≤ 9223372036854775807 then sumN (d :: r) - payOf rows mm cc else 0), .int .i64 (if sumN (d :: r) ≤ 9223372036854775807 then 0 else 3)]) ∧ Below w.heap.size w w' := by
  have hS0 := sumN_nonneg fun x hx => (hamt x hx).1
  have hp0 := payOf_nonneg rows mm cc
  have hp1 := payOf_amt hp mm cc
  obtain ⟨n, hn⟩ : ∃ n, n = (d :: r).length := ⟨_, rfl⟩
  have hn0 : 0 < n := by rw [hn]; simp
  have hns : (fun i => (((d :: r).map (·.n)).getD i 0)) = fun i => (((d :: r).map (·.n)).getD i 0) := rfl
  have hfin := laidBy_all ((d :: r).map (·.n))
  rw [List.length_map, ← hn] at hfin
  have hat : ∀ i, i < n → ((d :: r).map (·.n)).getD i 0 = ((d :: r)[i]?.getD default).n := fun i hi => by
    have hi' : i < (d :: r).length := by omega
    rw [List.getD_eq_getElem?_getD, List.getElem?_map, List.getElem?_eq_getElem hi']; rfl
  have hamt2 : ∀ i, Amt (((d :: r).map (·.n)).getD i 0) := fun i => by
    rw [List.getD_eq_getElem?_getD, List.getElem?_map]
    cases h : (d :: r)[i]? with
    | none => exact ⟨by decide, by decide⟩
    | some x => have := hamt x (List.mem_of_getElem? h); show Amt x.n; unfold Amt; omega
  rw [← hn] at hl ⊢
  have z0 : (0 : Int) < (n : Int) := by omega
  have mk50 := make22 n hl
  generalize hZ : zeros n = Z at *
  have hz0 : YthocnlalahknjaaGreat.IRow 2 (w.alloc (.cells Z 2)) w.heap.size (laidBy (fun i => (((d :: r).map (·.n)).getD i 0)) n 0) := by
    rw [laidBy_zero, ← hZ]; exact YthocnlalahknjaaGreat.IRow.made 2 w n
  have hba : Below w.heap.size w (w.alloc (.cells Z 2)) := (Below.refl _ _).alloc (Nat.le_refl _) _
  obtain ⟨S, hS⟩ : ∃ S, S = sumN (d :: r) := ⟨_, rfl⟩
  rw [← hS] at hS0 ⊢
  obtain ⟨f, hf⟩ : ∃ f : Nat → Int, f = fun i => (((d :: r).map (·.n)).getD i 0) := ⟨_, rfl⟩
  rw [← hf] at hz0 hfin
  obtain ⟨RV, hRV⟩ : ∃ RV, RV = (if S ≤ 9223372036854775807 then S - payOf rows mm cc else 0) := ⟨_, rfl⟩
  obtain ⟨RE, hRE⟩ : ∃ RE : Int, RE = (if S ≤ 9223372036854775807 then 0 else 3) := ⟨_, rfl⟩
  rw [← hRV, ← hRE]
  replace hRV := Lib.hid hRV
  replace hRE := Lib.hid hRE
  replace hall := Lib.hid hall
  replace hamt2 := Lib.hid hamt2
  replace hz0 := Lib.hid hz0
  replace hba := Lib.hid hba
  replace hfin := Lib.hid hfin
  replace hp := Lib.hid hp
  replace hS := Lib.hid hS
  replace hf := Lib.hid hf
  replace hat := Lib.hid hat
  replace hn := Lib.hid hn
  clear hZ hamt hns
  go_enter Tryz.func42, Tryz.ntmps42
  go_wp2_with fail
  go_loopw [16] (fun i wr => ∃ k : Nat, k ≤ n ∧ i = .int .i64 (k : Int) ∧ Hid (YthocnlalahknjaaGreat.IRow 2 wr w.heap.size (laidBy f n k) ∧ Below w.heap.size w wr)) (fun i _ => n - (intOf i).toNat)
  case atStart => exact ⟨0, by omega, rfl, Lib.hid ⟨hz0.out, hba.out⟩⟩
  case round =>
    obtain ⟨k, hk, rfl, hT⟩ := hrel
    obtain ⟨hrow, hbel⟩ := hT.out
    have hgw : w.heap.size < wr.heap.size := hrow.lt
    by_cases hkn : k < n
    · have hkl : k < (d :: r).length := by have := hn.out; omega
      have e0 := (hbel.cell (p := ⟨b, off + k * 4 + 0, none⟩) hlt).trans (hall.out k hkl 0 _ rfl)
      have e1 := (hbel.cell (p := ⟨b, off + k * 4 + 1, none⟩) hlt).trans (hall.out k hkl 1 _ rfl)
      have e2 := (hbel.cell (p := ⟨b, off + k * 4 + 2, none⟩) hlt).trans (hall.out k hkl 2 _ rfl)
      have e3 := (hbel.cell (p := ⟨b, off + k * 4 + 3, none⟩) hlt).trans (hall.out k hkl 3 _ rfl)
      rw [Nat.add_zero] at e0
      have hblr : b < wr.heap.size := by omega
      have hfk : f k = (d :: r)[k].n := by
        rw [hf.out]; show ((d :: r).map (·.n)).getD k 0 = _
        rw [hat.out k hkn, List.getElem?_eq_getElem hkl]; rfl
      generalize (d :: r)[k] = x at *
      have hrow2 : ∀ o, YthocnlalahknjaaGreat.IRow 2 (wr.alloc o) w.heap.size (laidBy f n k) := fun o => hrow.alloc o
      have cW : ∀ o, (wr.alloc o).cell? ⟨w.heap.size, k, none⟩ = some (.int .i64 ((laidBy f n k).getD k 0)) := fun o => (hrow2 o).cell (i := k) (by rw [laidBy_length]; exact hkn)
      have fW : ∀ o, (wr.alloc o).frozen? ⟨w.heap.size, k, none⟩ = false := fun o => (hrow2 o).free (i := k)
      generalize (laidBy f n k).getD k 0 = y0 at cW
      have hnext : ∀ o, YthocnlalahknjaaGreat.IRow 2 ((wr.setCell ⟨w.heap.size, k, none⟩ (.int .i64 x.n)).alloc o) w.heap.size (laidBy f n (k + 1)) ∧ Below w.heap.size w ((wr.setCell ⟨w.heap.size, k, none⟩ (.int .i64 x.n)).alloc o) := fun o => by
        have hs2 := hbel.setCell (p := ⟨w.heap.size, k, none⟩) (Nat.le_refl _) (.int .i64 x.n)
        refine ⟨?_, hs2.alloc hs2.size o⟩
        rw [← laidBy_set f n k hkn, hfk]
        exact (hrow.set x.n).alloc o
      replace hnext := Lib.hid hnext
      replace hrow := Lib.hid hrow
      replace hbel := Lib.hid hbel
      replace hrow2 := Lib.hid hrow2
      replace hfk := Lib.hid hfk
      clear hT
      go_wp2_with fail
      go_roundw
      case rel => exact ⟨k + 1, by omega, by go_num, Lib.hid (hnext.out _)⟩
      case measure => simp [intOf]; omega
    · obtain rfl : k = n := by omega
      have hkz : ¬ (k : Int) < (k : Int) := by omega
      rw [hfin.out] at hrow
      have hsq := hrow.seq (n := k) (by rw [List.length_map]; exact hn.out.symm) (by omega) hamt2.out
      have hsum := sum_any (some ⟨w.heap.size, 0, none⟩) k k _ wr hsq
      have hSs : sumL ((d :: r).map (·.n)) = S := hS.out.symm
      rw [hSs] at hsum
      have e0 := (hbel.cell (p := ⟨b, off + 0 * 4 + 0, none⟩) hlt).trans (hall.out 0 (by simp) 0 _ rfl)
      have e1 := (hbel.cell (p := ⟨b, off + 0 * 4 + 1, none⟩) hlt).trans (hall.out 0 (by simp) 1 _ rfl)
      simp only [Nat.zero_mul, Nat.add_zero, List.getElem_cons_zero, hdm, hdc] at e0 e1
      have hpw := hp.out.kept hbel
      replace hsum := Lib.hid hsum
      replace hpw := Lib.hid hpw
      replace hbel := Lib.hid hbel
      clear hrow hsq hSs hT
      by_cases hSm : S ≤ 9223372036854775807
      · have hV : fitV S = S := by unfold fitV; rw [if_pos ⟨by omega, hSm⟩]
        have hE : fitE S = 0 := by unfold fitE; rw [if_pos ⟨by omega, hSm⟩]
        have q1 := hRV.out
        have q2 := hRE.out
        rw [if_pos hSm] at q1 q2
        clear hRV hRE
        rw [hV, hE] at hsum
        have hV2 : fitV (S - payOf rows mm cc) = S - payOf rows mm cc := by unfold fitV; rw [if_pos ⟨by omega, by omega⟩]
        have hE2 : fitE (S - payOf rows mm cc) = 0 := by unfold fitE; rw [if_pos ⟨by omega, by omega⟩]
        have hpay := fun W (hW : NSeq W pv rows) => payments_any pv rows mm cc W hW hrl hmm hcc
        have hsub := fun W => sub_any S (payOf rows mm cc) W (by omega) hSm (by omega) hp1
        rw [hV2, hE2] at hsub
        generalize payOf rows mm cc = pay at *
        replace hsub := Lib.hid hsub
        replace hpay := Lib.hid hpay
        replace q1 := Lib.hid q1
        replace q2 := Lib.hid q2
        clear hV hE hV2 hE2
        go_wp2_with fail
        with_reducible refine hsum.out.mono ?_
        rintro e w5 ⟨rfl, hb5⟩
        have e0' := (hb5.cell (p := ⟨b, off, none⟩) (by have := hbel.out.size; show b < _; omega)).trans e0
        have e1' := (hb5.cell (p := ⟨b, off + 1, none⟩) (by have := hbel.out.size; show b < _; omega)).trans e1
        have hpw5 := hpw.out.kept hb5
        replace hpw5 := Lib.hid hpw5
        replace hb5 := Lib.hid hb5
        go_wp2_with fail
        have e0'' : w5.drew.cell? ⟨b, off, none⟩ = some (.int .i64 (mm : Int)) := e0'
        have e1'' : w5.drew.cell? ⟨b, off + 1, none⟩ = some (.int .i64 (cc : Int)) := e1'
        have hpw6 : NSeq w5.drew pv rows := hpw5.out
        replace hpw6 := Lib.hid hpw6
        have hb5' : Below wr.heap.size wr w5.drew := hb5.out.drew
        replace hb5' := Lib.hid hb5'
        go_region_held3 (fun w' => w'.cell? ⟨b, off, none⟩ = some (.int .i64 (mm : Int)) ∧ w'.cell? ⟨b, off + 1, none⟩ = some (.int .i64 (cc : Int))) (first | exact ⟨e0'', e1''⟩ | exact hHeld | exact ⟨(hb6.out.cell (p := ⟨b, off, none⟩) (by have := hbel.out.size; have := hb5'.out.size; show b < _; omega)).trans e0'', (hb6.out.cell (p := ⟨b, off + 1, none⟩) (by have := hbel.out.size; have := hb5'.out.size; show b < _; omega)).trans e1''⟩) (first | (go_at_call 72; (with_reducible refine (hpay.out _ hpw6.out).mono ?_); rintro e w6 ⟨rfl, rfl⟩) | (go_at_call 71; (with_reducible refine (hsub.out _).mono ?_); rintro e w6 ⟨rfl, hb6⟩; replace hb6 := Lib.hid hb6))
        go_wp2_with fail
        go_ret2
        have hb7 := hb5'.out
        exact ⟨by rw [q1.out, q2.out]; rfl, hbel.out.trans ((hb7.trans (hb6.out.mono hb7.size)).mono hbel.out.size)⟩
      · have hV : fitV S = 0 := by unfold fitV; rw [if_neg (by omega)]
        have hE : fitE S = 3 := by unfold fitE; rw [if_neg (by omega)]
        have q1 := hRV.out
        have q2 := hRE.out
        rw [if_neg hSm] at q1 q2
        replace q1 := Lib.hid q1
        replace q2 := Lib.hid q2
        clear hRV hRE
        rw [hV, hE] at hsum
        clear hV hE
        go_wp2_with (go_at_call 19; (with_reducible refine hsum.out.mono ?_); rintro e w5 ⟨rfl, hb5⟩; replace hb5 := Lib.hid hb5)
        go_ret2
        exact ⟨by rw [q1.out, q2.out]; rfl, hbel.out.trans (hb5.out.mono hbel.out.size)⟩
end Go.Proofs.YthocnlalahknjaaGreat.Dd
namespace Go.Proofs.YthocnlalahknjaaGreat.Dd
open Go.RowKit Go.Maps
set_option linter.unusedVariables false

theorem UR.drew {w wr : World} {u : Value} {l : List Du} (h : UR w wr u l) : UR w wr.drew u l := ⟨orow_kept h.row fun _ _ => rfl, h.own, h.bl.drew⟩
theorem UR.below {w wr w' : World} {u : Value} {l : List Du} (h : UR w wr u l) (hb : Below wr.heap.size wr w') : UR w w' u l :=
  ⟨orow_kept h.row fun g hg => hb.block g (World.ownsRow.lt h.row g hg).2, h.own, h.bl.trans (hb.mono h.bl.size)⟩
theorem UR.base {w w2 wr : World} {u : Value} {l : List Du} (h : UR w2 wr u l) (hb : Below w.heap.size w w2) : UR w wr u l :=
  ⟨h.row, fun g hg => Nat.le_trans hb.size (h.own g hg), hb.trans (h.bl.mono hb.size)⟩
theorem UR.app1 {w W : World} {u : Value} {l : List Du} (h : UR w W u l) (x : Du) (hl : l.length ≤ 1000000) :
    ∃ v' w', (Builtin.append_ #[36, 36] 36 #[u, .slice (some ⟨W.heap.size, 0, none⟩) 1 1]).run Tryz.prog (W.alloc (.cells #[.int .i64 x.m, .int .i64 x.c, .int .i64 x.t, .int .i64 x.n] 39)) = .ok v' w' ∧ UR w w' v' (l ++ [x]) := by
  have r1 : (W.alloc (.cells x.cs.toArray 39)).ownsRow 0 39 4 u l.length (cellsU l) := orow_kept h.row fun g' hg' => Below.heap_alloc _ _ _ (World.ownsRow.lt h.row g' hg').2
  obtain ⟨v', w', hr, ho, hg, hv⟩ := app1_run 36 39 4 32 _ Tryz.underlying36 info39 (by rfl) (by omega) (by omega) (W.alloc (.cells x.cs.toArray 39)) u l.length (cellsU l) r1 ⟨W.heap.size, 0, none⟩ x.cs rfl (boxU x (heap_alloc_new W _)) x.cs_one (by omega)
  refine ⟨v', w', hr, ?_, fun g' hg' => ?_, below_grown (h.bl.alloc (by have := h.bl.size; omega) _) hg h.own (Nat.le_refl _)⟩
  · rw [cellsU_app, List.length_append]; exact ho
  · rcases hv g' hg' with h4 | h4
    · exact h.own g' h4
    · have := h.bl.size; simp at h4; omega

/-- who is behind, account by account -/
def behL (rows : List (List Int)) (now : Int) : Nat → List Du → Option (List Du)
  | 0, _ => some []
  | _, [] => some []
  | n + 1, d :: r =>
    if sumN ((d :: r).take (grpLen (d :: r))) ≤ 9223372036854775807 then
      (behL rows now n ((d :: r).drop (grpLen (d :: r)))).map fun t =>
        if 0 < sumN ((d :: r).take (grpLen (d :: r))) - payOf rows d.m.toNat d.c.toNat then ⟨d.m, d.c, now, sumN ((d :: r).take (grpLen (d :: r))) - payOf rows d.m.toNat d.c.toNat⟩ :: t else t
    else none
/-- what is true of each due that can be -/
def DuOk (d : Du) : Prop := 0 ≤ d.m ∧ d.m ≤ 9223372036854775807 ∧ 0 ≤ d.c ∧ d.c ≤ 9223372036854775807 ∧ 1 ≤ d.n ∧ d.n ≤ 9223372036854775807

set_option maxHeartbeats 4000000 in
set_option maxRecDepth 100000 in
/-- behind the dues up to now -/
theorem behind_loop (v pv : Value) (l : List Du) (rows : List (List Int)) (now : Int) (w : World) (h : USeq w v l) (hlen : l.length ≤ 4096) (hw : l.any Du.wrong = false) (hok : ∀ d ∈ l, DuOk d) (hp : NSeq w pv rows) (hrl : rows.length ≤ 4611686018427387904) :
    Calls Tryz.prog 15 #[v, pv, .int .i64 now] w fun e w' => Below w.heap.size w w' ∧ ∃ L : List Du, L.Perm (ofNow l now) ∧ InOrder byAcc L ∧
      ((∃ out u, behL rows now L.length L = some out ∧ e = .returned (.tuple #[u, .int .i64 0]) ∧ UR w w' u out) ∨ (behL rows now L.length L = none ∧ e = .returned (.tuple #[.slice none 0 0, .int .i64 3]))) := by
  have h1 := anyWrong v l w h (by omega)
  rw [hw] at h1
  have h2 := fun W (hb : Below w.heap.size w W) => upTo_any v l now W (h.kept hb) (by omega)
  obtain ⟨a, cap, hv, -⟩ := id h
  subst hv
  have z1 : ¬ (4096 : Int) < (l.length : Int) := by omega
  replace h1 := Lib.hid h1
  replace h2 := Lib.hid h2
  replace hp := Lib.hid hp
  replace hok := Lib.hid hok
  replace h := Lib.hid h
  go_enter Tryz.func15, Tryz.ntmps15
  go_wp2_with (first | (go_at_call 38; (with_reducible refine h1.out.mono ?_); rintro e w1 ⟨rfl, hb1⟩; replace hb1 := Lib.hid hb1) | (go_at_call 40; (with_reducible refine (h2.out _ hb1.out).mono ?_); rintro e w2 ⟨u, L, rfl, hL1, hL2, hL3, hb2⟩; replace hL1 := Lib.hid hL1; replace hL2 := Lib.hid hL2; replace hL3 := Lib.hid hL3; replace hb2 := Lib.hid hb2))
  have hokL : Hid (∀ d ∈ L, DuOk d) := Lib.hid fun d hd => hok.out d (List.mem_filter.1 (hL1.out.mem_iff.1 hd)).1
  have hLl : Hid (L.length ≤ 4096) := Lib.hid (by have := hL1.out.length_eq; have h9 := ofNow_le l now l.length; rw [List.take_length] at h9; omega)
  have hbw2 : Hid (Below w.heap.size w w2) := Lib.hid (hb1.out.trans (hb2.out.mono hb1.out.size))
  obtain ⟨N, hN⟩ : ∃ N, N = L.length := ⟨_, rfl⟩
  have hwhole : Hid (behL rows now N L = (behL rows now N L).map fun t => [] ++ t) := Lib.hid (by cases behL rows now N L <;> rfl)
  clear h h1 h2 z1 hw hb1 hb2
  have hNN := Lib.hid hN
  go_loopg [8, 9] N (fun gg s8 s9 wr => ∃ (rest out : List Du) (m : Nat), rest.length ≤ gg ∧ rest.length ≤ m ∧ Hid (USeq w2 s9 rest ∧ UR w2 wr s8 out ∧ (∀ d ∈ rest, DuOk d) ∧ rest.length ≤ 4096 ∧ out.length + rest.length ≤ 4096) ∧ Hid (behL rows now N L = (behL rows now m rest).map fun t => out ++ t))
  case atStart => exact ⟨L, [], N, by omega, by omega, Lib.hid ⟨hL3.out, ⟨World.ownsRow_nil _ _ _ _, (fun g hg => by simp [Value.ownBlock] at hg), Below.refl _ _⟩, hokL.out, hLl.out, by simpa using hLl.out⟩, hwhole⟩
  case round =>
    obtain ⟨rest, out, m, hg, hm, hA, hB⟩ := hrel
    obtain ⟨hU, hR, hokr, hrl2, hol⟩ := hA.out
    cases rest with
    | nil =>
      obtain ⟨a9, c9, rfl, -, -⟩ := hU
      replace hR := Lib.hid hR
      have hres : Hid (behL rows now N L = some out) := Lib.hid (by rw [hB.out]; cases m <;> simp [behL])
      go_wp2_with fail
      go_ret2
      exact ⟨(hR.out.base hbw2.out).bl, L, hL1.out, hL2.out, .inl ⟨out, _, by rw [← hNN.out]; exact hres.out, rfl, hR.out.base hbw2.out⟩⟩
    | cons d r =>
      obtain ⟨a9, c9, rfl, hcap, hrd⟩ := hU
      obtain ⟨b, off, rfl, hlt2, hall2⟩ := hrd.resolve_left (by simp)
      have hlt : b < wr.heap.size := Nat.lt_of_lt_of_le hlt2 hR.bl.size
      have hall : ∀ i (h : i < (d :: r).length) j u, (d :: r)[i].cs[j]? = some u → wr.cell? ⟨b, off + i * 4 + j, none⟩ = some u := fun i hi j u hu => (hR.bl.cell (p := ⟨b, off + i * 4 + j, none⟩) hlt2).trans (hall2 i hi j u hu)
      replace hall2 := Lib.hid hall2
      replace hlt2 := Lib.hid hlt2
      obtain ⟨k, hk⟩ : ∃ k, k = grpLen (d :: r) := ⟨_, rfl⟩
      have hk1 : 1 ≤ k := by rw [hk]; exact grpLen_pos
      have hk2 : k ≤ (d :: r).length := by rw [hk]; exact grpLen_le _
      obtain ⟨r2, hr2⟩ : ∃ r2, (d :: r).take k = d :: r2 := by
        cases k with
        | zero => omega
        | succ k => exact ⟨r.take k, rfl⟩
      have hr2l : (d :: r2).length = k := by rw [← hr2, List.length_take]; omega
      have hown : ∀ i (h : i < (d :: r2).length) j u, (d :: r2)[i].cs[j]? = some u → wr.cell? ⟨b, off + i * 4 + j, none⟩ = some u := fun i hi j u hu => by
        have e1 : (d :: r2)[i]? = (d :: r)[i]? := by rw [← hr2, List.getElem?_take_of_lt (by omega)]
        rw [List.getElem?_eq_getElem hi, List.getElem?_eq_getElem (by omega)] at e1
        injection e1 with e1
        rw [e1] at hu
        exact hall i (by omega) j u hu
      obtain ⟨dm0, dm1, dc0, dc1, dn0, dn1⟩ := hokr d (by simp)
      have hmem : ∀ x ∈ d :: r2, x ∈ d :: r := fun x hx => by rw [← hr2] at hx; exact List.mem_of_mem_take hx
      have hfst := ofFirst_any b off c9 d r wr hcap hlt (by omega) hall
      rw [← hk] at hfst
      have hpw : NSeq wr pv rows := hp.out.kept (hR.base hbw2.out).bl
      have hmiss := fun W (hb : Below wr.heap.size wr W) => missing_any b off c9 d r2 pv rows d.m.toNat d.c.toNat W (Nat.lt_of_lt_of_le hlt hb.size) (by omega)
        (fun i hi j u hu => (hb.cell (p := ⟨b, off + i * 4 + j, none⟩) hlt).trans (hown i hi j u hu)) (fun x hx => ⟨(hokr x (hmem x hx)).2.2.2.2.1, (hokr x (hmem x hx)).2.2.2.2.2⟩) (hpw.kept hb) hrl (by omega) (by omega) (by omega) (by omega)
      rw [hr2l] at hmiss
      have hdef : behL rows now m (d :: r) = (if sumN (d :: r2) ≤ 9223372036854775807 then (behL rows now (m - 1) ((d :: r).drop k)).map fun t => if 0 < sumN (d :: r2) - payOf rows d.m.toNat d.c.toNat then ⟨d.m, d.c, now, sumN (d :: r2) - payOf rows d.m.toNat d.c.toNat⟩ :: t else t else none) := by
        cases m with
        | zero => simp at hm
        | succ m => rw [← hr2, hk]; rfl
      obtain ⟨S, hS⟩ : ∃ S, S = sumN (d :: r2) := ⟨_, rfl⟩
      rw [← hS] at hmiss hdef
      have c0 := hall 0 (by simp) 0 _ rfl
      have c1 := hall 0 (by simp) 1 _ rfl
      simp only [Nat.zero_mul, Nat.add_zero, List.getElem_cons_zero] at c0 c1
      have z0 : (0 : Int) < ((d :: r).length : Int) := by rw [List.length_cons]; omega
      have z0k : (0 : Int) < (k : Int) := by omega
      have z0c : (k : Int) ≤ (c9 : Int) := by omega
      have z0l : (k : Int) ≤ ((d :: r).length : Int) := by omega
      obtain ⟨n, hn⟩ : ∃ n, n = (d :: r).length := ⟨_, rfl⟩
      rw [← hn] at z0 z0l hfst ⊢
      replace hfst := Lib.hid hfst
      replace hn := Lib.hid hn
      replace hall := Lib.hid hall
      replace hown := Lib.hid hown
      replace hokr := Lib.hid hokr
      replace hpw := Lib.hid hpw
      replace hmem := Lib.hid hmem
      replace hk := Lib.hid hk
      replace hr2 := Lib.hid hr2
      replace hS := Lib.hid hS
      replace hR := Lib.hid hR
      replace hdef := Lib.hid hdef
      replace hcap := Lib.hid hcap
      clear hA hrd hN
      have hlen2 : ((d :: r).drop k).length = n - k := by rw [List.length_drop, hn.out]
      have hdropA : USeq w2 (.slice (some ⟨b, off + k * 4, none⟩) (n - k) (c9 - k)) ((d :: r).drop k) := by
        refine ⟨_, c9 - k, by rw [hlen2], by rw [hlen2]; have := hcap.out; have := hn.out; omega, .inr ⟨b, off + k * 4, rfl, hlt2.out, fun i hi j u hu => ?_⟩⟩
        rw [List.getElem_drop] at hu
        have := hall2.out (k + i) (by rw [hlen2] at hi; have := hn.out; omega) j u hu
        rw [show off + k * 4 + i * 4 + j = off + (k + i) * 4 + j by omega]
        exact this
      have hdropB : c9 = k → ∀ X Y, USeq w2 (.slice X (n - k) Y) ((d :: r).drop k) := fun e X Y => by
        have h0 : (d :: r).drop k = [] := by rw [← List.length_eq_zero_iff, hlen2]; have := hcap.out; have := hn.out; omega
        rw [h0]
        have : n - k = 0 := by have := hcap.out; have := hn.out; omega
        rw [this]
        exact ⟨X, Y, rfl, Nat.zero_le _, .inl rfl⟩
      have hokd : ∀ d2 ∈ (d :: r).drop k, DuOk d2 := fun d2 h2 => hokr.out d2 (List.mem_of_mem_drop h2)
      have hmeas : ((d :: r).drop k).length < gk ∧ ((d :: r).drop k).length ≤ m - 1 ∧ ((d :: r).drop k).length ≤ 4096 ∧ out.length + 1 + ((d :: r).drop k).length ≤ 4096 := by rw [hlen2]; have := hn.out; omega
      replace hdropA := Lib.hid hdropA
      replace hdropB := Lib.hid hdropB
      replace hokd := Lib.hid hokd
      replace hmeas := Lib.hid hmeas
      replace hlen2 := Lib.hid hlen2
      replace hrl2 := Lib.hid hrl2
      replace hol := Lib.hid hol
      replace hg := Lib.hid hg
      replace hm := Lib.hid hm
      replace hk2 := Lib.hid hk2
      replace hr2l := Lib.hid hr2l
      by_cases hSM : S ≤ 9223372036854775807
      · rw [if_pos hSM, if_pos hSM] at hmiss
        have hdef2 := hdef.out
        rw [if_pos hSM] at hdef2
        generalize S - payOf rows d.m.toNat d.c.toNat = left at hmiss hdef2
        replace hmiss := Lib.hid hmiss
        replace hSM := Lib.hid hSM
        clear hdef
        by_cases hleft : 0 < left
        · have hB2 : behL rows now N L = (behL rows now (m - 1) ((d :: r).drop k)).map fun t => (out ++ [⟨d.m, d.c, now, left⟩]) ++ t := by
            rw [hB.out, hdef2]; simp only [if_pos hleft, Option.map_map]; congr 1; funext t; simp
          replace hB2 := Lib.hid hB2
          clear hdef2
          go_wp2_with (first | (go_at_call 41; (with_reducible refine hfst.out.mono ?_); rintro e w3 ⟨rfl, hb3⟩; replace hb3 := Lib.hid hb3) | (go_at_call 42; (with_reducible refine (hmiss.out _ hb3.out).mono ?_); rintro e w4 ⟨rfl, hb4⟩; replace hb4 := Lib.hid hb4))
          have hb5 : Below wr.heap.size wr w4.drew := (hb3.out.trans (hb4.out.mono hb3.out.size)).drew
          have hap := (hR.out.below hb5).app1 ⟨d.m, d.c, now, left⟩ (by have := hol.out; omega)
          obtain ⟨v7, w7, hr7, hR7⟩ := hap
          have c0' : w4.drew.cell? ⟨b, off, none⟩ = some (.int .i64 d.m) := (hb5.cell (p := ⟨b, off, none⟩) hlt).trans c0
          have c1' : w4.drew.cell? ⟨b, off + 1, none⟩ = some (.int .i64 d.c) := (hb5.cell (p := ⟨b, off + 1, none⟩) hlt).trans c1
          replace hr7 := Lib.hid hr7
          replace hR7 := Lib.hid hR7
          replace hb5 := Lib.hid hb5
          clear c0 c1
          have z0n : 0 < k := by omega
          go_region_law (first | (refine step_app rfl _ _ _ _ rfl _ _ _ _ rfl rfl hr7.out ?_))
          all_goals go_wp2_with fail
          all_goals
            go_roundg ((d :: r).drop k).length
            case measure => exact hmeas.out.1
            case rel => exact ⟨(d :: r).drop k, out ++ [⟨d.m, d.c, now, left⟩], m - 1, Nat.le_refl _, hmeas.out.2.1, Lib.hid ⟨(by first | exact hdropA.out | exact hdropB.out (by assumption) _ _ | exact hdropB.out (by omega) _ _), hR7.out, hokd.out, hmeas.out.2.2.1, by rw [List.length_append, List.length_singleton]; exact hmeas.out.2.2.2⟩, hB2⟩
        · have hB2 : behL rows now N L = (behL rows now (m - 1) ((d :: r).drop k)).map fun t => out ++ t := by
            rw [hB.out, hdef2]; simp only [if_neg hleft, Option.map_map]; rfl
          replace hB2 := Lib.hid hB2
          clear hdef2
          go_wp2_with (first | (go_at_call 41; (with_reducible refine hfst.out.mono ?_); rintro e w3 ⟨rfl, hb3⟩; replace hb3 := Lib.hid hb3) | (go_at_call 42; (with_reducible refine (hmiss.out _ hb3.out).mono ?_); rintro e w4 ⟨rfl, hb4⟩; replace hb4 := Lib.hid hb4))
          all_goals
            have hb5 : Below wr.heap.size wr w4 := hb3.out.trans (hb4.out.mono hb3.out.size)
            have hR5 := hR.out.below hb5
            go_roundg ((d :: r).drop k).length
            case measure => exact hmeas.out.1
            case rel => exact ⟨(d :: r).drop k, out, m - 1, Nat.le_refl _, hmeas.out.2.1, Lib.hid ⟨(by first | exact hdropA.out | exact hdropB.out (by assumption) _ _ | exact hdropB.out (by omega) _ _), hR5, hokd.out, hmeas.out.2.2.1, by have := hmeas.out.2.2.2; omega⟩, hB2⟩
      · rw [if_neg hSM, if_neg hSM] at hmiss
        have hB2 : behL rows now N L = none := by
          rw [hB.out, hdef.out, if_neg hSM]; rfl
        replace hB2 := Lib.hid hB2
        replace hmiss := Lib.hid hmiss
        clear hdef
        go_wp2_with (first | (go_at_call 41; (with_reducible refine hfst.out.mono ?_); rintro e w3 ⟨rfl, hb3⟩; replace hb3 := Lib.hid hb3) | (go_at_call 42; (with_reducible refine (hmiss.out _ hb3.out).mono ?_); rintro e w4 ⟨rfl, hb4⟩; replace hb4 := Lib.hid hb4))
        go_ret2
        have hb5 : Below wr.heap.size wr w4 := hb3.out.trans (hb4.out.mono hb3.out.size)
        exact ⟨((hR.out.below hb5).base hbw2.out).bl, L, hL1.out, hL2.out, .inr ⟨by rw [← hNN.out]; exact hB2.out, rfl⟩⟩
end Go.Proofs.YthocnlalahknjaaGreat.Dd
