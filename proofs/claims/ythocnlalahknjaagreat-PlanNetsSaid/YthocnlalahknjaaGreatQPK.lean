/- The contract of spread: a net below 0, shared out over deadlines. -/
import Derived.Test.YthocnlalahknjaaGreatQPJ
namespace Go.Proofs.YthocnlalahknjaaGreat.Dd
open Go.RowKit Go.Maps
set_option linter.unusedVariables false

/-- the due of one deadline, if it isn't 0 -/
def dueAt (m c : Int) (zs sh : List Int) (i : Nat) : Option Du := if 0 < sh.getD i 0 then some ⟨m, c, zs.getD i 0, sh.getD i 0⟩ else none
/-- the dues of the first deadlines -/
def duesUp (m c : Int) (zs sh : List Int) (k : Nat) : List Du := (List.range k).filterMap (dueAt m c zs sh)
theorem duesUp_yes {m c : Int} {zs sh : List Int} {k : Nat} (h : 0 < sh.getD k 0) : duesUp m c zs sh (k + 1) = duesUp m c zs sh k ++ [⟨m, c, zs.getD k 0, sh.getD k 0⟩] := by
  unfold duesUp; rw [List.range_succ, List.filterMap_append]; simp only [List.filterMap_cons, List.filterMap_nil, dueAt, if_pos h]
theorem duesUp_no {m c : Int} {zs sh : List Int} {k : Nat} (h : ¬ 0 < sh.getD k 0) : duesUp m c zs sh (k + 1) = duesUp m c zs sh k := by
  unfold duesUp; rw [List.range_succ, List.filterMap_append]; simp only [List.filterMap_cons, List.filterMap_nil, dueAt, if_neg h, List.append_nil]
theorem duesUp_le (m c : Int) (zs sh : List Int) (k : Nat) : (duesUp m c zs sh k).length ≤ k := by
  unfold duesUp; have := List.length_filterMap_le (dueAt m c zs sh) (List.range k); rwa [List.length_range] at this
/-- what a net below 0 is shared out to -/
def duesOf (m c x : Int) (zs : List Int) : List Du := duesUp m c zs (shares (-x) (List.replicate zs.length 1)) zs.length
theorem sum_ones : ∀ n : Nat, sumL (List.replicate n 1) = (n : Int)
  | 0 => rfl
  | n + 1 => by rw [List.replicate_succ]; show 1 + sumL (List.replicate n 1) = _; rw [sum_ones n]; omega
theorem chk_ones {T : Int} {n : Nat} (hT : 0 ≤ T) (hn : n ≤ 64) : chk T (List.replicate n 1) = 0 := by
  unfold chk
  rw [if_neg (by rw [List.length_replicate]; omega), if_neg (by omega), if_neg]
  rintro ⟨z, hz, h0⟩
  have := (List.mem_replicate.1 hz).2
  omega
theorem shE_ones {T : Int} {n : Nat} (hT : 0 ≤ T) (h1 : 1 ≤ n) (hn : n ≤ 64) : shE T (List.replicate n 1) = 0 := by
  unfold shE
  rw [if_neg (by rw [chk_ones hT hn]; decide), sum_ones, if_neg (by omega), if_neg (by omega)]

set_option maxHeartbeats 4000000 in
set_option maxRecDepth 100000 in
theorem spread_any (m c x : Int) (p : Option Addr) (n cap : Nat) (zs : List Int) (w : World) (hs : Seq64 w p n zs) (h1 : 1 ≤ n) (h16 : n ≤ 16) (hx : x < 0) (hx2 : -9223372036854775808 < x) :
    Calls Tryz.prog 34 #[.int .i64 m, .int .i64 c, .int .i64 x, .slice p n cap] w fun e w' => ∃ u, e = .returned (.tuple #[u, .int .i64 0]) ∧ UR w w' u (duesOf m c x zs) := by
  have hsz := size_any x w (by omega) (by omega)
  have habs : absI x = -x := by unfold absI; split <;> omega
  have hV : fitV (-x) = -x := by unfold fitV; rw [if_pos ⟨by omega, by omega⟩]
  have hE : fitE (-x) = 0 := by unfold fitE; rw [if_pos ⟨by omega, by omega⟩]
  rw [habs, hV, hE] at hsz
  have hev := even_any (-x) (n : Int) w ⟨by omega, by omega⟩ ⟨by omega, by omega⟩
  obtain ⟨hl, hz, hm, hcs⟩ := hs
  obtain ⟨b, off, rfl, hlt, hall⟩ := hcs.resolve_left (by omega)
  obtain ⟨sh, hsh⟩ : ∃ sh, sh = shares (-x) (List.replicate n 1) := ⟨_, rfl⟩
  have hshl : sh.length = n := by rw [hsh, shares_len, List.length_replicate]
  have hout : Hid (∀ w' e, EvOut (-x) (n : Int) w w' e → ∃ g, e = .returned (.tuple #[.slice (some ⟨g, 0, none⟩) n n, .int .i64 0]) ∧ w.heap.size ≤ g ∧ YthocnlalahknjaaGreat.IRow 2 w' g sh) := Lib.hid fun w' e h => by
    rcases h with ⟨h, _⟩ | ⟨h, _⟩ | ⟨k, hk, k1, k2, h⟩
    · omega
    · omega
    · obtain rfl : k = n := by omega
      rcases h with ⟨h, _⟩ | ⟨_, g, rfl, hg, hI⟩
      · exact absurd (shE_ones (by omega) k1 k2) h
      · exact ⟨g, by rw [List.length_replicate], hg, by rw [hsh]; exact hI⟩
  have hfin : duesOf m c x zs = duesUp m c zs sh n := by unfold duesOf; rw [hl, ← hsh]
  rw [hfin]
  have h0 : UR w w (.slice none 0 0) (duesUp m c zs sh 0) := ⟨World.ownsRow_nil _ _ _ _, (fun g hg => by simp [Value.ownBlock] at hg), Below.refl _ _⟩
  replace hsz := Lib.hid hsz
  replace hev := Lib.hid hev
  replace hall := Lib.hid hall
  replace h0 := Lib.hid h0
  replace hshl := Lib.hid hshl
  clear hz hcs hsh hfin habs hV hE
  go_enter Tryz.func34, Tryz.ntmps34
  go_wp2_with (first | (go_at_call 62; (with_reducible refine hsz.out.mono ?_); rintro e w1 ⟨rfl, rfl⟩) | (go_at_call 63; (with_reducible refine hev.out.mono ?_); rintro e w2 ⟨hb2, he⟩; obtain ⟨g, rfl, hg, hI⟩ := hout.out _ _ he; replace hb2 := Lib.hid hb2; replace hI := Lib.hid hI; replace hg := Lib.hid hg; clear he))
  have h02 : Hid (UR w2 w2 (.slice none 0 0) (duesUp m c zs sh 0)) := Lib.hid ⟨World.ownsRow_nil _ _ _ _, (fun g hg => by simp [Value.ownBlock] at hg), Below.refl _ _⟩
  go_loopw [14, 34] (fun u i wr => ∃ k : Nat, k ≤ n ∧ i = .int .i64 (k : Int) ∧ Hid (UR w2 wr u (duesUp m c zs sh k))) (fun _ i _ => n - (intOf i).toNat)
  case atStart => exact ⟨0, by omega, rfl, h02⟩
  case round =>
    obtain ⟨k, hk, rfl, hS⟩ := hrel
    by_cases hkn : k < n
    · have hbl := hS.out.bl
      have hbw : Below w.heap.size w wr := hb2.out.trans (hbl.mono hb2.out.size)
      have e0 := (hbl.cell (p := ⟨g, k, none⟩) hI.out.lt).trans (hI.out.cell (i := k) (by have := hshl.out; omega))
      have e1 := (hbw.cell (p := ⟨b, off + k, none⟩) hlt).trans (hall.out k hkn)
      have hle : Hid ((duesUp m c zs sh k).length ≤ 1000) := Lib.hid (by have := duesUp_le m c zs sh k; omega)
      have hyes : 0 < sh.getD k 0 → ∀ o, (wr.alloc o).ownsRow 0 39 4 u14 (duesUp m c zs sh k).length (cellsU (duesUp m c zs sh k)) ∧
          (∀ v' w', w'.ownsRow 0 39 4 v' ((duesUp m c zs sh k).length + 1) (cellsU (duesUp m c zs sh k) ++ (⟨m, c, zs.getD k 0, sh.getD k 0⟩ : Du).cs) → (wr.alloc o).grownBy w' u14.ownBlock → (∀ g', v'.ownBlock = some g' → u14.ownBlock = some g' ∨ wr.heap.size + 1 ≤ g') → UR w2 w' v' (duesUp m c zs sh (k + 1))) := fun hh o => by
        have r2 := orow_kept (w' := wr.alloc o) hS.out.row fun g' hg' => Below.heap_alloc _ _ _ (World.ownsRow.lt hS.out.row g' hg').2
        refine ⟨r2, fun v' w' h1 h2 h3 => ⟨?_, fun g' hg' => ?_, below_grown (hS.out.bl.alloc hS.out.bl.size o) h2 hS.out.own (Nat.le_refl _)⟩⟩
        · rw [duesUp_yes hh, cellsU_app, List.length_append]; exact h1
        · rcases h3 g' hg' with h4 | h4
          · exact hS.out.own g' h4
          · have := hS.out.bl.size; omega
      have hno : ¬ 0 < sh.getD k 0 → UR w2 wr u14 (duesUp m c zs sh (k + 1)) := fun hh => by rw [duesUp_no hh]; exact hS.out
      generalize zs.getD k 0 = t at *
      generalize sh.getD k 0 = a at *
      obtain ⟨X, hX⟩ : ∃ X : Du, X = ⟨m, c, t, a⟩ := ⟨_, rfl⟩
      have hnewC : ∀ (j : Nat) (u : Value), (⟨m, c, t, a⟩ : Du).cs[j]? = some u → (wr.alloc (.cells #[.int .i64 m, .int .i64 c, .int .i64 t, .int .i64 a] 39)).cell? ((⟨wr.heap.size, 0, none⟩ : Addr).add j) = some u := boxU ⟨m, c, t, a⟩ (heap_alloc_new wr _)
      have h1c := (⟨m, c, t, a⟩ : Du).cs_one
      replace hnewC := Lib.hid hnewC
      replace h1c := Lib.hid h1c
      replace hbl := Lib.hid hbl
      replace hbw := Lib.hid hbw
      by_cases hst : 0 < a
      · have hyes := Lib.hid (hyes hst)
        clear hno
        go_wp2_with (at_builtin; refine wpList_app1 36 39 4 32 _ Tryz.underlying36 info39 (by rfl) (by omega) (by omega) rfl _ _ rfl rfl _ _ _ rfl (hyes.out _).1 ⟨wr.heap.size, 0, none⟩ (⟨m, c, t, a⟩ : Du).cs rfl rfl hnewC.out h1c.out (by have := hle.out; omega) ?_)
        intro v' w' hr' hg' hv'
        go_wp2_with fail
        go_roundw
        case rel => exact ⟨k + 1, by omega, by go_num, Lib.hid ((hyes.out _).2 _ _ hr' hg' hv')⟩
        case measure => simp [intOf]; omega
      · have hno := Lib.hid (hno hst)
        clear hyes
        go_wp2_with fail
        go_roundw
        case rel => exact ⟨k + 1, by omega, by go_num, hno⟩
        case measure => simp [intOf]; omega
    · obtain rfl : k = n := by omega
      have hkz : ¬ (k : Int) < (k : Int) := by omega
      go_wp2_with fail
      go_ret2
      exact ⟨_, rfl, hS.out.base hb2.out⟩
end Go.Proofs.YthocnlalahknjaaGreat.Dd
