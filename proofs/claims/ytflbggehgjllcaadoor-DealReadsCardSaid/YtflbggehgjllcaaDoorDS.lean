/- The contract of countMatched. -/
import Derived.Test.YtflbggehgjllcaaDoorDO
import Derived.Shelf.Slices.In.SortNone
namespace Go.Proofs.YtflbggehgjllcaaDoor
open Go.RowKit Go.Maps Go.Sort
set_option linter.unusedVariables false

def nths (l : List En) : List Int := (l.filter fun e => decide (0 < e.nth)).map (·.nth)
/-- in order -/
def srt (l : List Int) : List Int := l.mergeSort fun x y => decide (x ≤ y)
/-- one was the first, one the second, and so on -/
def isUp (l : List Int) : Bool := l == (List.range l.length).map fun (k : Nat) => (k : Int) + 1
theorem srt_len (l : List Int) : (srt l).length = l.length := by unfold srt; exact List.length_mergeSort l
theorem isUp_no {l : List Int} {k : Nat} (hk : k < l.length) (h : ¬ l.getD k 0 = (k : Int) + 1) : isUp l = false := by
  unfold isUp
  rw [beq_eq_false_iff_ne]
  intro e
  apply h
  rw [List.getD_eq_getElem?_getD, e, List.getElem?_map, List.getElem?_range hk]; rfl
theorem isUp_yes {l : List Int} (h : ∀ k, k < l.length → l.getD k 0 = (k : Int) + 1) : isUp l = true := by
  unfold isUp
  rw [beq_iff_eq]
  refine List.ext_getElem (by simp) fun k h1 h2 => ?_
  have := h k h1
  rw [List.getD_eq_getElem?_getD, List.getElem?_eq_getElem h1] at this
  simpa using this
theorem nths_yes {l : List En} {k : Nat} (h : k < l.length) (hh : 0 < l[k].nth) : nths (l.take (k + 1)) = nths (l.take k) ++ [l[k].nth] := by
  unfold nths; rw [List.take_succ_eq_append_getElem h, List.filter_append, List.map_append]; simp [hh]
theorem nths_no {l : List En} {k : Nat} (h : k < l.length) (hh : ¬ 0 < l[k].nth) : nths (l.take (k + 1)) = nths (l.take k) := by
  unfold nths; rw [List.take_succ_eq_append_getElem h, List.filter_append, List.map_append]; simp [hh]
theorem nths_le (l : List En) (k : Nat) : (nths (l.take k)).length ≤ l.length := by
  unfold nths; rw [List.length_map]; have := List.length_filter_le (fun e : En => decide (0 < e.nth)) (l.take k); have : (l.take k).length ≤ l.length := by rw [List.length_take]; omega
  omega
/-- ints' cells from a place on -/
def ICells (w : World) (g : Nat) (l : List Int) : Prop := ∀ k, k < l.length → w.cell? ⟨g, k, none⟩ = some (.int .i64 (l.getD k 0))
theorem irow_holds {w : World} {g cap : Nat} {l : List Int} (h : IRow w (.slice (some ⟨g, 0, none⟩) l.length cap) l) : Holds (Value.int .i64) w g 0 l.toArray := by
  intro j hj
  have hj' : j < l.length := by simpa using hj
  refine ⟨?_, orow_free h rfl _⟩
  have := h.at_ (g := g) rfl hj'
  rw [Nat.zero_add, this]
  rw [getElem!_pos l.toArray j hj, List.getD_eq_getElem?_getD, List.getElem?_eq_getElem hj']; simp
theorem below_sortI (W : World) (B g off N : Nat) (d : Array Int) (os : Array Obj) (hg : B ≤ g) (hB : B ≤ W.heap.size) : RowKit.Below B W (grow (putRow (Value.int .i64) (Sort.ahead W N) g off d) os) := by
  refine ⟨rfl, rfl, rfl, ?_, fun k hk => ?_⟩
  · simp [Sort.grow, Sort.putRow, Sort.mapBlock, Sort.ahead]
  · show ((Sort.putRow (Value.int .i64) (Sort.ahead W N) g off d).heap ++ os)[k]? = W.heap[k]?
    rw [Array.getElem?_append_left (by simp [Sort.putRow, Sort.mapBlock, Sort.ahead]; omega)]
    simp only [Sort.putRow, Sort.mapBlock, Sort.ahead, Array.getElem?_modify]
    rw [if_neg (by omega)]
theorem sortI_any (w : World) (g cap : Nat) (l : List Int) (h : IRow w (.slice (some ⟨g, 0, none⟩) l.length cap) l) (B : Nat) (hg : B ≤ g) (hB : B ≤ w.heap.size) (hlen : l.length ≤ 1000) :
    Calls Tryd.prog 58 #[.slice (some ⟨g, 0, none⟩) l.length cap] w fun e w' => e = .returned (.tuple #[]) ∧ ICells w' g (srt l) ∧ g < w'.heap.size ∧ RowKit.Below B w w' := by
  have hgl := (World.ownsRow.lt h g rfl).2
  refine (Tryd.slices_Sort_int g 0 cap l w (irow_holds h) hgl (by omega)).mono ?_
  rintro e w' ⟨he, n, os, rfl⟩
  have hsz : (l.mergeSort fun x y => decide (x ≤ y)).toArray.size = l.toArray.size := by simp
  have hh := holds_sortWorld (Value.int .i64) w g 0 n l.toArray (l.mergeSort fun x y => decide (x ≤ y)).toArray os hgl (irow_holds h) hsz
  refine ⟨he, fun k hk => ?_, lt_sortWorld _ _ _ _ _ _ _ hgl, below_sortI _ _ _ _ _ _ _ hg hB⟩
  have hk' : k < (l.mergeSort fun x y => decide (x ≤ y)).toArray.size := by unfold srt at hk; simpa using hk
  have := (hh k hk').1
  rw [Nat.zero_add] at this
  have e2 : (srt l).getD k 0 = (l.mergeSort fun x y => decide (x ≤ y)).toArray[k]! := by
    rw [getElem!_pos _ k hk', List.getD_eq_getElem?_getD, List.getElem?_eq_getElem hk]; simp [srt]
  rw [e2]; exact this
theorem sortI_nil (w : World) (p : Option Addr) (cap : Nat) : Calls Tryd.prog 58 #[.slice p 0 cap] w fun e w' => e = .returned (.tuple #[]) ∧ w' = w :=
  Any.slices_Sort_int_none Tryd.lays189 p cap w
/-- what countMatched leaves -/
structure CM (P : Nat → Prop) (w : World) (gb : Nat) (b : Bk) (e : Ending) (w' : World) : Prop where
  ans : e = .returned (.bool (isUp (srt (nths b.l))))
  yes : isUp (srt (nths b.l)) = true → PB P w' gb { b with many := (nths b.l).length }
  no : isUp (srt (nths b.l)) = false → PB P w' gb b
  kp : Kp P w w'
section
variable {P : Nat → Prop} {w : World} {gb : Nat} {b : Bk} {v : Value} {mb : Nat} {D : DataW Value}
set_option maxHeartbeats 4000000 in
set_option maxRecDepth 100000 in
theorem countMatched_any (h : PB P w gb b) (hlen : b.l.length ≤ 1000) :
    Calls Tryd.prog 41 #[.pointer (some ⟨gb, 0, none⟩)] w (CM P w gb b) := by
  obtain ⟨v, mb, D, h⟩ := h
  have h0 : ZR w w (.slice none 0 0) (nths (b.l.take 0)) := ⟨World.ownsRow_nil _ _ _ _, (fun g hg => by simp [Value.ownBlock] at hg), RowKit.Below.refl _ _⟩
  have c2 : w.cell? ⟨gb, 2, none⟩ = some v := obj_cell h.obj rfl
  obtain ⟨p, cap, rfl, -, -, hps⟩ := orow_shape h.row
  have hgp : ∀ k, k < b.l.length → ∃ g, p = some ⟨g, 0, none⟩ := fun k hk => by
    obtain ⟨g, c1, cur, e1, _⟩ := orow_some h.row (by omega)
    injection e1 with e1 _ _
    exact ⟨g, e1⟩
  clear hps
  obtain ⟨n, hn⟩ : ∃ n, n = b.l.length := ⟨_, rfl⟩
  have hn1 : n ≤ 1000 := by omega
  rw [← hn] at c2 hgp
  replace h := Lib.hid h
  replace h0 := Lib.hid h0
  replace hn := Lib.hid hn
  replace hgp := Lib.hid hgp
  go_enter Tryd.func41, Tryd.ntmps41
  go_wp2_with fail
  go_loopw [3, 13] (fun u i wr => ∃ k : Nat, k ≤ n ∧ i = .int .i64 (k : Int) ∧ Hid (ZR w wr u (nths (b.l.take k)))) (fun _ i _ => n - (intOf i).toNat)
  case atStart => exact ⟨0, by omega, rfl, h0⟩
  case round =>
    obtain ⟨k, hk, rfl, hS⟩ := hrel
    by_cases hkn : k < n
    · obtain ⟨g, rfl⟩ := hgp.out k hkn
      have hkb : k < b.l.length := by have := hn.out; omega
      have hpb := h.out.below hS.out.bl
      obtain ⟨e0, e1, e2, e3, e4, e5, e6, e7, e8, e9⟩ := hpb.entry (i := k) hkb rfl
      have hgl : g < wr.heap.size := (World.ownsRow.lt hpb.row g rfl).2
      have hkz : (k : Int) < (n : Int) := by omega
      have hle : Hid ((nths (b.l.take k)).length ≤ 1000) := Lib.hid (by have := nths_le b.l k; omega)
      have hbox : ∀ o, ZR w (wr.alloc o) u3 (nths (b.l.take k)) := fun o => ⟨orow_kept hS.out.row fun g' hg' => RowKit.Below.heap_alloc _ _ _ (World.ownsRow.lt hS.out.row g' hg').2, hS.out.own, hS.out.bl.alloc hS.out.bl.size o⟩
      have hno : ¬ 0 < b.l[k].nth → ∀ o, ZR w (wr.alloc o) u3 (nths (b.l.take (k + 1))) := fun hh o => by rw [nths_no hkb hh]; exact hbox o
      have hyes : 0 < b.l[k].nth → ∀ o o', ((wr.alloc o).alloc o').ownsRow 0 3 1 u3 (nths (b.l.take k)).length ((nths (b.l.take k)).map (Value.int .i64)) ∧
          (∀ v' w', w'.ownsRow 0 3 1 v' ((nths (b.l.take k)).length + 1) ((nths (b.l.take k)).map (Value.int .i64) ++ [.int .i64 b.l[k].nth]) → ((wr.alloc o).alloc o').grownBy w' u3.ownBlock → (∀ g', v'.ownBlock = some g' → u3.ownBlock = some g' ∨ wr.heap.size + 1 + 1 ≤ g') → ZR w w' v' (nths (b.l.take (k + 1)))) := fun hh o o' => by
        have r1 := hbox o
        have r2 : IRow ((wr.alloc o).alloc o') u3 (nths (b.l.take k)) := orow_kept r1.row fun g' hg' => RowKit.Below.heap_alloc _ _ _ (World.ownsRow.lt r1.row g' hg').2
        refine ⟨r2, fun v' w' h1 h2 h3 => ⟨?_, fun g' hg' => ?_, below_grown (r1.bl.alloc (by have := r1.bl.size; omega) o') h2 hS.out.own (Nat.le_refl _)⟩⟩
        · rw [nths_yes hkb hh]; exact irow_app h1
        · rcases h3 g' hg' with h4 | h4
          · exact hS.out.own g' h4
          · have := hS.out.bl.size; omega
      generalize b.l[k] = x at *
      by_cases hst : 0 < x.nth
      · have hyes := Lib.hid (hyes hst)
        have hnewD : ∀ (i : Nat) (u : Value), [Value.int .i64 x.nth][i]? = some u → ((wr.alloc (.cells x.cs.toArray 65)).alloc (.cells #[.int .i64 x.nth] 3)).cell? ((⟨wr.heap.size + 1, 0, none⟩ : Addr).add i) = some u := fun i u hu => by
          match i with
          | 0 => injection hu with hu; rw [← hu]; exact obj_cell (new_two wr _ _) rfl
          | i + 1 => simp at hu
        replace hnewD := Lib.hid hnewD
        clear hno hbox hpb
        go_wp2_with (at_builtin; refine wpList_app1 38 3 1 8 _ Tryd.underlying38 info3 (by rfl) (by omega) (by omega) rfl _ _ rfl rfl _ _ _ rfl (hyes.out _ _).1 ⟨wr.heap.size + 1, 0, none⟩ [.int .i64 x.nth] rfl rfl hnewD.out (fun u hu => by obtain rfl := List.mem_singleton.1 hu; rfl) (by have := hle.out; omega) ?_)
        intro v' w' hr' hg' hv'
        go_wp2_with fail
        go_roundw
        case rel => exact ⟨k + 1, by omega, by go_num, Lib.hid ((hyes.out _ _).2 _ _ hr' hg' hv')⟩
        case measure => simp [intOf]; omega
      · have hno := Lib.hid (hno hst)
        clear hyes hbox hpb
        go_wp2_with fail
        go_roundw
        case rel => exact ⟨k + 1, by omega, by go_num, Lib.hid (hno.out _)⟩
        case measure => simp [intOf]; omega
    · obtain rfl : k = n := by omega
      have hkz : ¬ (k : Int) < (k : Int) := by omega
      have hS2 : ZR w wr u3 (nths b.l) := by have h1 := hS.out; have h2 := hn.out; rw [h2, List.take_length] at h1; exact h1
      replace hS2 := Lib.hid hS2
      replace hS := True.intro
      obtain ⟨p2, cap2, rfl, -, -, -⟩ := orow_shape hS2.out.row
      have hsome : ∀ j, j < (nths b.l).length → ∃ g, p2 = some ⟨g, 0, none⟩ := fun j hj => by
        obtain ⟨g, c1, cur, e1, _⟩ := orow_some hS2.out.row (by omega)
        injection e1 with e1 _ _
        exact ⟨g, e1⟩
      have hlm : (nths b.l).length ≤ 1000 := by have := nths_le b.l b.l.length; rw [List.take_length] at this; omega
      have hbl := hS2.out.bl
      have hrow2 := hS2.out.row
      have hown2 := hS2.out.own
      have hpbw := fun w2 hb => h.out.below (w' := w2) hb
      clear hS2
      obtain ⟨Z, hZ⟩ : ∃ Z, srt (nths b.l) = Z := ⟨_, rfl⟩
      obtain ⟨m, hmm⟩ : ∃ m, m = (nths b.l).length := ⟨_, rfl⟩
      have hm1 : m ≤ 1000 := by omega
      have hZl : Hid (m = Z.length) := Lib.hid (by rw [← hZ, srt_len]; exact hmm)
      by_cases h0m : m = 0
      · have hsort : ∀ W, Calls Tryd.prog 58 #[.slice p2 (nths b.l).length cap2] W fun e w' => e = .returned (.tuple #[]) ∧ W = w' := fun W => by
          rw [← hmm, h0m]; exact (sortI_nil W p2 cap2).mono fun _ _ h => ⟨h.1, h.2.symm⟩
        have hp2 : Hid (∀ j, j < m → ∃ g, p2 = some ⟨g, 0, none⟩ ∧ ICells wr g Z ∧ g < wr.heap.size) := Lib.hid fun j hj => by omega
        have hbl2 : Hid (RowKit.Below w.heap.size w wr) := Lib.hid hbl
        have hpb2 := Lib.hid (hpbw wr hbl)
        rw [← hmm] at hsort ⊢
        replace hmm := Lib.hid hmm
        replace hZ := Lib.hid hZ
        clear hsome hlm hrow2 hown2 hbl hpbw
        replace hsort := Lib.hid hsort
        replace h0m := Lib.hid h0m
        obtain ⟨w2, rfl⟩ : ∃ w2, w2 = wr := ⟨_, rfl⟩
        go_wp2_with (go_at_call 58; (with_reducible refine (hsort.out _).mono ?_); rintro e w9 ⟨rfl, rfl⟩)
        go_loop [30] (fun i => ∃ j : Nat, j ≤ m ∧ i = .int .i64 (j : Int) ∧ Hid (∀ q, q < j → Z.getD q 0 = (q : Int) + 1)) (fun i => m - (intOf i).toNat)
        case atStart => exact ⟨0, by omega, rfl, Lib.hid (fun q hq => by omega)⟩
        case round =>
          obtain ⟨j, hj, rfl, hT⟩ := hrel
          by_cases hjm : j < m
          · obtain ⟨g2, hpg, hic, hg2⟩ := hp2.out j hjm
            cases hpg
            have hjZ : j < Z.length := by have := hZl.out; omega
            have c0 := hic j hjZ
            have hjz : (j : Int) < (m : Int) := by omega
            obtain ⟨y, hy⟩ : ∃ y, Z.getD j 0 = y := ⟨_, rfl⟩
            rw [hy] at c0
            replace hy := Lib.hid hy
            clear hic
            by_cases hq : y = (j : Int) + 1
            · have hq2 : (y != (j : Int) + 1) = false := by simp [hq]
              replace hq := Lib.hid hq
              go_wp2_with fail
              go_round
              case rel =>
                refine ⟨j + 1, by omega, by go_num, Lib.hid fun q hqj => ?_⟩
                by_cases e : q = j
                · rw [e, hy.out, hq.out]
                · exact hT.out q (by omega)
              case measure => simp [intOf]; omega
            · have hq2 : (y != (j : Int) + 1) = true := by simpa using hq
              have hfalse : isUp Z = false := isUp_no hjZ (by rw [hy.out]; exact hq)
              replace hfalse := Lib.hid hfalse
              go_wp2_with fail
              go_ret
              exact ⟨by rw [hZ.out, hfalse.out]; rfl, (fun e => by rw [hZ.out, hfalse.out] at e; cases e), fun _ => ⟨_, _, _, hpb2.out⟩, Kp.of_below hbl2.out⟩
          · obtain rfl : j = m := by omega
            have hjz : ¬ (j : Int) < (j : Int) := by omega
            have htrue : isUp Z = true := isUp_yes fun q hq => hT.out q (by have := hZl.out; omega)
            have c4 : w2.cell? ⟨gb, 4, none⟩ = some (.int .i64 (b.many : Nat)) := obj_cell hpb2.out.obj rfl
            have f4 : w2.frozen? ⟨gb, 4, none⟩ = false := obj_free hpb2.out.obj 4
            have hmore := hpb2.out.more j
            have hkp2 : Kp P w (w2.setCell ⟨gb, 4, none⟩ (.int .i64 (j : Nat))) := (Kp.of_below hbl2.out).setCell (.inl hpb2.out.pg) _
            replace htrue := Lib.hid htrue
            replace hmore := Lib.hid hmore
            replace hkp2 := Lib.hid hkp2
            go_wp2_with fail
            go_ret
            exact ⟨by rw [hZ.out, htrue.out]; rfl, (fun _ => by rw [← hmm.out]; exact ⟨_, _, _, hmore.out⟩), (fun e => by rw [hZ.out, htrue.out] at e; cases e), hkp2.out⟩
      · obtain ⟨g3, rfl⟩ := hsome 0 (by omega)
        have hg3 : w.heap.size ≤ g3 := hown2 g3 rfl
        have hsort := sortI_any wr g3 cap2 (nths b.l) hrow2 w.heap.size hg3 hbl.size hlm
        rw [hZ] at hsort
        rw [← hmm] at hsort ⊢
        replace hmm := Lib.hid hmm
        replace hZ := Lib.hid hZ
        clear hsome hlm hrow2 hown2
        replace hsort := Lib.hid hsort
        replace h0m := Lib.hid h0m
        replace hbl := Lib.hid hbl
        replace hpbw := Lib.hid hpbw
        go_wp2_with (go_at_call 58; (with_reducible refine hsort.out.mono ?_); rintro e w2 ⟨rfl, hec9, hgl9, hbl9⟩; have hp2 : Hid (∀ j, j < m → ∃ g, some (⟨g3, 0, none⟩ : Addr) = some ⟨g, 0, none⟩ ∧ ICells w2 g Z ∧ g < w2.heap.size) := Lib.hid (fun j hj => ⟨g3, rfl, hec9, hgl9⟩); clear hec9 hgl9; have hbl2 : Hid (RowKit.Below w.heap.size w w2) := Lib.hid (hbl.out.trans hbl9); clear hbl9; have hpb2 := Lib.hid (hpbw.out w2 hbl2.out))
        go_loop [30] (fun i => ∃ j : Nat, j ≤ m ∧ i = .int .i64 (j : Int) ∧ Hid (∀ q, q < j → Z.getD q 0 = (q : Int) + 1)) (fun i => m - (intOf i).toNat)
        case atStart => exact ⟨0, by omega, rfl, Lib.hid (fun q hq => by omega)⟩
        case round =>
          obtain ⟨j, hj, rfl, hT⟩ := hrel
          by_cases hjm : j < m
          · obtain ⟨g2, hpg, hic, hg2⟩ := hp2.out j hjm
            cases hpg
            have hjZ : j < Z.length := by have := hZl.out; omega
            have c0 := hic j hjZ
            have hjz : (j : Int) < (m : Int) := by omega
            obtain ⟨y, hy⟩ : ∃ y, Z.getD j 0 = y := ⟨_, rfl⟩
            rw [hy] at c0
            replace hy := Lib.hid hy
            clear hic
            by_cases hq : y = (j : Int) + 1
            · have hq2 : (y != (j : Int) + 1) = false := by simp [hq]
              replace hq := Lib.hid hq
              go_wp2_with fail
              go_round
              case rel =>
                refine ⟨j + 1, by omega, by go_num, Lib.hid fun q hqj => ?_⟩
                by_cases e : q = j
                · rw [e, hy.out, hq.out]
                · exact hT.out q (by omega)
              case measure => simp [intOf]; omega
            · have hq2 : (y != (j : Int) + 1) = true := by simpa using hq
              have hfalse : isUp Z = false := isUp_no hjZ (by rw [hy.out]; exact hq)
              replace hfalse := Lib.hid hfalse
              go_wp2_with fail
              go_ret
              exact ⟨by rw [hZ.out, hfalse.out]; rfl, (fun e => by rw [hZ.out, hfalse.out] at e; cases e), fun _ => ⟨_, _, _, hpb2.out⟩, Kp.of_below hbl2.out⟩
          · obtain rfl : j = m := by omega
            have hjz : ¬ (j : Int) < (j : Int) := by omega
            have htrue : isUp Z = true := isUp_yes fun q hq => hT.out q (by have := hZl.out; omega)
            have c4 : w2.cell? ⟨gb, 4, none⟩ = some (.int .i64 (b.many : Nat)) := obj_cell hpb2.out.obj rfl
            have f4 : w2.frozen? ⟨gb, 4, none⟩ = false := obj_free hpb2.out.obj 4
            have hmore := hpb2.out.more j
            have hkp2 : Kp P w (w2.setCell ⟨gb, 4, none⟩ (.int .i64 (j : Nat))) := (Kp.of_below hbl2.out).setCell (.inl hpb2.out.pg) _
            replace htrue := Lib.hid htrue
            replace hmore := Lib.hid hmore
            replace hkp2 := Lib.hid hkp2
            go_wp2_with fail
            go_ret
            exact ⟨by rw [hZ.out, htrue.out]; rfl, (fun _ => by rw [← hmm.out]; exact ⟨_, _, _, hmore.out⟩), (fun e => by rw [hZ.out, htrue.out] at e; cases e), hkp2.out⟩
end
end Go.Proofs.YtflbggehgjllcaaDoor
