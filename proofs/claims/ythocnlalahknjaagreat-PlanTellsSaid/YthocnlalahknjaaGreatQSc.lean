/- Rows of the call's own; the contracts of split's check and part.
  The contract of split's order: all places, in the order in which they get one more.
  Plain arithmetic of shares: what is missing, who gets one more, and that all is shared out.
  The contract of split's Shares.
  The contract of split's Shares: what is shared out.
  The contracts of split's Even and Fill, and of the reference's Same.
  Plain arithmetic of shares: all together they are the total; who gets one more had something left over.
  Plain arithmetic of shares: none is one unit from its exact part, and a greater weight has no lesser share. -/
import Derived.Test.YthocnlalahknjaaGreatB2
import Derived.Laws.MakeOwn
import Derived.OwnWalk
import Derived.Test.YthocnlalahknjaaGreatQSb
import Derived.BigQuiet
import Derived.Deep.QuietTactic
namespace Go.Proofs.YthocnlalahknjaaGreat
open Go.RowKit
set_option linter.unusedVariables false

/-- a row of ints, whole, in a block of the call's own; t: its element's type -/
def IRow (t : TypeId) (w : World) (g : Nat) (ds : List Int) : Prop := w.heap[g]? = some (.cells ((ds.map (Value.int .i64)).toArray) t (0, 0))
theorem IRow.lt {t : TypeId} {w : World} {g : Nat} {ds : List Int} (h : IRow t w g ds) : g < w.heap.size := (Array.getElem?_eq_some_iff.1 h).1
theorem IRow.kept {t : TypeId} {w w' : World} {g : Nat} {ds : List Int} (h : IRow t w g ds) (hb : Below w.heap.size w w') : IRow t w' g ds := (hb.block g h.lt).trans h
theorem IRow.cell {t : TypeId} {w : World} {g i : Nat} {ds : List Int} (h : IRow t w g ds) (hi : i < ds.length) : w.cell? ⟨g, i, none⟩ = some (.int .i64 (ds.getD i 0)) := by
  rw [cell_of_row w g i _ t (0, 0) h]
  simp only [List.getElem?_toArray, List.getElem?_map]
  rw [List.getD_eq_getElem?_getD, List.getElem?_eq_getElem hi]
  rfl
theorem IRow.free {t : TypeId} {w : World} {g i : Nat} {ds : List Int} (h : IRow t w g ds) : w.frozen? ⟨g, i, none⟩ = false := by
  unfold IRow at h
  simp [World.frozen?, h]
theorem IRow.set {t : TypeId} {w : World} {g i : Nat} {ds : List Int} (h : IRow t w g ds) (d : Int) : IRow t (w.setCell ⟨g, i, none⟩ (.int .i64 d)) g (ds.set i d) := by
  unfold IRow at *
  simp [World.setCell, Array.getElem?_modify, h, List.map_set]
theorem IRow.other {t : TypeId} {w : World} {g : Nat} {ds : List Int} (h : IRow t w g ds) {a : Addr} (hne : g ≠ a.block) (u : Value) : IRow t (w.setCell a u) g ds := (Below.heap_setCell w a u g hne).trans h
theorem IRow.drew {t : TypeId} {w : World} {g : Nat} {ds : List Int} (h : IRow t w g ds) : IRow t w.drew g ds := h
theorem IRow.alloc {t : TypeId} {w : World} {g : Nat} {ds : List Int} (h : IRow t w g ds) (o : Obj) : IRow t (w.alloc o) g ds := (Below.heap_alloc w o g h.lt).trans h
/-- n cells that hold 0 -/
def zeros (n : Nat) : Array Value := ((List.replicate n (0 : Int)).map (Value.int .i64)).toArray
theorem IRow.made (t : TypeId) (X : World) (n : Nat) : IRow t (X.alloc (.cells (zeros n) t)) X.heap.size (List.replicate n 0) := heap_alloc_new X _

theorem made_zeros (n : Nat) : madeCells #[Value.int .i64 0] n = zeros n := by
  unfold zeros
  apply Array.ext
  · simp [size_madeCells]
  · intro i h1 h2
    simp [madeCells, Nat.mod_one]

theorem info_2 : (Tryz.prog.info? 2).map (fun i => (i.zero, i.size, i.bytes)) = some (some (.int .i64 0), 1, 8) := by kernel_rfl
theorem info_3 : (Tryz.prog.info? 3).map (fun i => (i.zero, i.size, i.bytes)) = some (some (.int .i64 0), 1, 8) := by kernel_rfl

theorem make_row (t e : TypeId) (ht : Tryz.prog.underlying t = some (.slice e)) (he : (Tryz.prog.info? e).map (fun i => (i.zero, i.size, i.bytes)) = some (some (.int .i64 0), 1, 8)) (n : Nat) (hn : n ≤ 1000000) (w : World) :
    (Instr.makeSlice t (.int .i64 (n : Int)) (.int .i64 (n : Int))).run Tryz.prog w = .ok (.slice (some ⟨w.heap.size, 0, none⟩) n n) (w.alloc (.cells (zeros n) e)) := by
  obtain ⟨i0, hi, hz0, hz1, hz2⟩ := info_parts he
  have hb : (i0.bytes : Int) * (n : Int) ≤ 281474976710656 := by rw [hz2]; omega
  have hr := run_make (P := Tryz.prog) w t e i0 (.int .i64 0) ht hi hz0 .i64 .i64 n n (by omega) (by omega) hb (by omega)
  simp only [Int.toNat_natCast, hz1, Nat.mul_one] at hr
  rw [hr, ← made_zeros]
  rfl
theorem make22 (n : Nat) (hn : n ≤ 1000000) (w : World) : (Instr.makeSlice 50 (.int .i64 (n : Int)) (.int .i64 (n : Int))).run Tryz.prog w = .ok (.slice (some ⟨w.heap.size, 0, none⟩) n n) (w.alloc (.cells (zeros n) 2)) := make_row 50 2 Tryz.underlying50 info_2 n hn w
theorem make38 (n : Nat) (hn : n ≤ 1000000) (w : World) : (Instr.makeSlice 163 (.int .i64 (n : Int)) (.int .i64 (n : Int))).run Tryz.prog w = .ok (.slice (some ⟨w.heap.size, 0, none⟩) n n) (w.alloc (.cells (zeros n) 2)) := make_row 163 2 Tryz.underlying163 info_2 n hn w
theorem make41 (n : Nat) (hn : n ≤ 1000000) (w : World) : (Instr.makeSlice 35 (.int .i64 (n : Int)) (.int .i64 (n : Int))).run Tryz.prog w = .ok (.slice (some ⟨w.heap.size, 0, none⟩) n n) (w.alloc (.cells (zeros n) 3)) := make_row 35 3 Tryz.underlying35 info_3 n hn w

/-- what check tells -/
def chk (T : Int) (zs : List Int) : Int := if 64 < zs.length then 4 else if T < 0 then 1 else if ∃ z ∈ zs, z < 0 then 1 else 0

set_option maxHeartbeats 1000000 in
set_option maxRecDepth 100000 in
theorem check_any (T : Int) (p : Option Addr) (len cap : Nat) (zs : List Int) (w : World) (hT : Amt T) (hs : Seq64 w p len zs) :
    Calls Tryz.prog 105 #[.int .i64 T, .slice p len cap] w fun e w' => e = .returned (.int .i64 (chk T zs)) ∧ w' = w := by
  obtain ⟨hl, hz, hm, hcells⟩ := hs
  replace hl := Lib.hid hl
  replace hz := Lib.hid hz
  replace hcells := Lib.hid hcells
  go_enter Tryz.func105, Tryz.ntmps105
  by_cases h64 : 64 < len
  · have h64z : (64 : Int) < (len : Int) := by omega
    go_wp2_with fail
    go_ret
    exact ⟨by unfold chk; rw [if_pos (by rw [hl.out]; exact h64)]; rfl, rfl⟩
  · have h64z : ¬ (64 : Int) < (len : Int) := by omega
    by_cases hneg : T < 0
    · go_wp2_with fail
      go_ret
      exact ⟨by unfold chk; rw [if_neg (by rw [hl.out]; exact h64), if_pos hneg]; rfl, rfl⟩
    · go_wp2_with fail
      go_loopw [14] (fun i wr => ∃ k : Nat, k ≤ len ∧ i = .int .i64 k ∧ wr = w ∧ ∀ z ∈ zs.take k, 0 ≤ z) (fun i _ => len - (intOf i).toNat)
      case atStart => exact ⟨0, by omega, rfl, rfl, by simp⟩
      case round =>
        obtain ⟨k, hk, rfl, rfl, hall⟩ := hrel
        replace hall := Lib.hid hall
        by_cases hlt : k < len
        · obtain ⟨b, off, rfl, hblt, hc⟩ := hcells.out.resolve_left (by omega)
          have hcell := hc k hlt
          obtain ⟨z0, z1⟩ := hz.out k
          have htk := take_one zs k (by rw [hl.out]; exact hlt)
          have hmem : zs.getD k 0 ∈ zs := by
            rw [List.getD_eq_getElem?_getD, List.getElem?_eq_getElem (by rw [hl.out]; exact hlt)]; exact List.getElem_mem _
          generalize hzk : zs.getD k 0 = z at *
          replace hzk := Lib.hid hzk
          replace htk := Lib.hid htk
          replace hmem := Lib.hid hmem
          clear hc
          by_cases hzn : z < 0
          · go_wp2_with fail
            go_ret
            exact ⟨by unfold chk; rw [if_neg (by rw [hl.out]; exact h64), if_neg (by omega), if_pos ⟨z, hmem.out, hzn⟩]; rfl, rfl⟩
          · go_wp2_with fail
            go_roundw
            case rel =>
              refine ⟨k + 1, by omega, by go_num, trivial, ?_⟩
              rw [htk.out]
              intro y hy
              rcases List.mem_append.1 hy with h | h
              · exact hall.out y h
              · simp at h; omega
            case measure => simp [intOf]; omega
        · go_wp2_with fail
          go_ret
          refine ⟨?_, rfl⟩
          have e : zs.take k = zs := List.take_of_length_le (by rw [hl.out]; omega)
          have h := hall.out
          rw [e] at h
          unfold chk
          rw [if_neg (by rw [hl.out]; exact h64), if_neg (by omega), if_neg (by rintro ⟨z, hz1, hz2⟩; have := h z hz1; omega)]
          rfl

theorem wrap_diff (A B : Int) (h0 : 0 ≤ A - B) (h1 : A - B ≤ 9223372036854775807) : wrap64 (wrap64 A - wrap64 B) = A - B := by
  unfold wrap64; omega

theorem part_bd (T z S : Int) (hT : 0 ≤ T) (hz : 0 ≤ z) (hzS : z ≤ S) (hS : 1 ≤ S) : 0 ≤ T * z / S ∧ T * z / S ≤ T ∧ 0 ≤ T * z - T * z / S * S ∧ T * z - T * z / S * S < S ∧ T * z - T * z / S * S = T * z % S := by
  have h0 : 0 ≤ T * z := Int.mul_nonneg hT hz
  have h1 : T * z ≤ T * S := Int.mul_le_mul_of_nonneg_left hzS hT
  have h2 := Int.emod_nonneg (T * z) (by omega : S ≠ 0)
  have h3 := Int.emod_lt_of_pos (T * z) (by omega : 0 < S)
  have h4 := Int.mul_ediv_add_emod (T * z) S
  have h5 : 0 ≤ T * z / S := Int.ediv_nonneg h0 (by omega)
  have h6 : T * z / S ≤ T := by
    have : T * z / S ≤ T * S / S := Int.ediv_le_ediv (by omega) h1
    rwa [Int.mul_ediv_cancel _ (by omega : S ≠ 0)] at this
  have h7 : T * z / S * S = S * (T * z / S) := Int.mul_comm _ _
  refine ⟨h5, h6, ?_, ?_, ?_⟩ <;> omega

set_option maxHeartbeats 1000000 in
set_option maxRecDepth 100000 in
theorem part_any (T z S : Int) (w : World) (hT : 0 ≤ T) (hT1 : T ≤ 9223372036854775807) (hz : 0 ≤ z) (hzS : z ≤ S) (hS : 1 ≤ S) (hS1 : S ≤ 9223372036854775807) :
    Calls Tryz.prog 106 #[.int .i64 T, .int .i64 z, .int .i64 S] w fun e w' => e = .returned (.tuple #[.int .i64 (T * z / S), .int .i64 (T * z % S)]) ∧ Below w.heap.size w w' := by
  obtain ⟨q0, q1, r0, r1, r2⟩ := part_bd T z S hT hz hzS hS
  have hcon := muldiv_any T z S false w (by omega) (by omega) (by omega) (by omega) hS hS1
  have e : muldiv T z S false = T * z / S := rfl
  rw [e, ← (fit_yes (T * z / S) (by omega) (by omega)).1, ← (fit_yes (T * z / S) (by omega) (by omega)).2] at hcon
  clear e
  have hw := wrap_diff (T * z) (T * z / S * S) r0 (by omega)
  rw [r2] at hw
  clear r0 r1 r2
  generalize T * z / S = q at *
  generalize T * z % S = r at *
  replace hw := Lib.hid hw
  go_enter Tryz.func106, Tryz.ntmps106
  go_wp2_with (first | (go_at_call 117; refine hcon.mono ?_; rintro e w' ⟨rfl, hb⟩))
  rw [hw.out]
  go_ret2
  exact ⟨rfl, hb⟩
end Go.Proofs.YthocnlalahknjaaGreat
namespace Go.Proofs.YthocnlalahknjaaGreat
open Go.RowKit
set_option linter.unusedVariables false

/-- the first is ahead of the second: of it more is left over, or as much, and it stands ahead -/
def Ahead (ls : Nat → Int) (a b : Nat) : Prop := ls b < ls a ∨ (ls b = ls a ∧ a < b)
theorem Ahead.total {ls : Nat → Int} {a b : Nat} (h : ¬ Ahead ls b a) (hne : a ≠ b) : Ahead ls a b := by unfold Ahead at *; omega

theorem below_sort {α : Type} [Inhabited α] (enc : α → Value) (W : World) (B g off N : Nat) (d : Array α) (os : Array Obj) (hg : B ≤ g) (hB : B ≤ W.heap.size) : Below B W (sortWorld enc W g off N d os) := by
  refine ⟨rfl, rfl, rfl, ?_, fun k hk => ?_⟩
  · simp [sortWorld, Sort.grow, Sort.putRow, Sort.mapBlock, Sort.ahead]
  · show ((Sort.putRow enc (Sort.ahead W N) g off d).heap ++ os)[k]? = W.heap[k]?
    rw [Array.getElem?_append_left (by simp [Sort.putRow, Sort.mapBlock, Sort.ahead]; omega)]
    simp only [Sort.putRow, Sort.mapBlock, Sort.ahead, Array.getElem?_modify]
    rw [if_neg (by omega)]

/-- all places, k of them laid -/
def laid (n k : Nat) : List Int := (List.range n).map fun i => if i < k then (i : Int) else 0
theorem laid_zero (n : Nat) : laid n 0 = List.replicate n 0 := by
  apply List.ext_getElem
  · simp [laid]
  · intro i h1 h2
    simp [laid]
theorem laid_length (n k : Nat) : (laid n k).length = n := by simp [laid]
theorem laid_set (n k : Nat) (h : k < n) : (laid n k).set k (k : Int) = laid n (k + 1) := by
  apply List.ext_getElem
  · simp [laid]
  · intro i h1 h2
    rw [List.getElem_set]
    simp only [laid, List.getElem_map, List.getElem_range]
    by_cases hik : k = i
    · subst hik; simp
    · rw [if_neg hik]
      by_cases h3 : i < k
      · rw [if_pos h3, if_pos (by omega)]
      · rw [if_neg h3, if_neg (by omega)]
theorem laid_at (n i : Nat) (h : i < n) : (laid n n).getD i 0 = (i : Int) := by
  rw [List.getD_eq_getElem?_getD, List.getElem?_eq_getElem (by rw [laid_length]; exact h)]
  simp [laid, h]

/-- every place -/
def places (m : Nat) : Array (Fin (m + 1)) := Array.ofFn fun i : Fin (m + 1) => i
theorem places_size (m : Nat) : (places m).size = m + 1 := by simp [places]
theorem places_at (m j : Nat) (h : j < m + 1) : ((places m)[j]! : Fin (m + 1)) = ⟨j, h⟩ := by
  rw [getElem!_pos (places m) j (by rw [places_size]; exact h)]
  simp [places]
theorem places_vals (m : Nat) : (places m).toList.map (fun a : Fin (m + 1) => (a : Nat)) = List.range (m + 1) := by
  apply List.ext_getElem
  · simp [places]
  · intro i h1 h2
    simp only [places, Array.toList_ofFn, List.getElem_map, List.getElem_ofFn, List.getElem_range]

/-- what order leaves behind -/
structure Ordered (ls : Nat → Int) (n g : Nat) (w' : World) (L : List Nat) : Prop where
  perm : L.Perm (List.range n)
  sorted : L.Pairwise (Ahead ls)
  cells : ∀ i, i < n → w'.cell? ⟨g, i, none⟩ = some (.int .i64 ((L.getD i 0 : Nat) : Int))
  lt : g < w'.heap.size

theorem ordered_of_sorts {ls : Nat → Int} {m g : Nat} {W w' : World} {e : Ending} (hS : Sorts ls m g 0 (places m) W e w') (hH : Sort.Holds (encP m) W g 0 (places m)) (hg : g < W.heap.size) : ∃ L, Ordered ls (m + 1) g w' L := by
  obtain ⟨_, d', N, os, hp, hs, rfl⟩ := hS
  rw [places_size] at hp hs
  obtain ⟨hsz, _, hperm⟩ := hp
  rw [places_size] at hsz
  have e1 : d'.extract 0 (m + 1) = d' := by
    have := Array.extract_size (xs := d'); rwa [hsz] at this
  have e2 : (places m).extract 0 (m + 1) = places m := by
    have := Array.extract_size (xs := places m); rwa [places_size] at this
  rw [e1, e2] at hperm
  have hperm2 : (d'.toList.map fun a : Fin (m + 1) => (a : Nat)).Perm (List.range (m + 1)) := by rw [← places_vals]; exact hperm.map _
  have hnd : (d'.toList.map fun a : Fin (m + 1) => (a : Nat)).Nodup := hperm2.nodup_iff.2 List.nodup_range
  refine ⟨d'.toList.map fun a : Fin (m + 1) => (a : Nat), hperm2, ?_, fun i hi => ?_, lt_sortWorld _ _ _ _ _ _ _ hg⟩
  · rw [List.pairwise_iff_getElem]
    intro i j hi hj hij
    have hi' : i < d'.size := by simpa using hi
    have hj' : j < d'.size := by simpa using hj
    have h := hs i j (Nat.zero_le _) hij (by omega)
    rw [getElem!_pos d' i hi', getElem!_pos d' j hj', ltOf_cf_false] at h
    have hne : (d'.toList.map fun a : Fin (m + 1) => (a : Nat))[i] ≠ (d'.toList.map fun a : Fin (m + 1) => (a : Nat))[j] := List.pairwise_iff_getElem.1 hnd i j hi hj hij
    simp only [List.getElem_map, Array.getElem_toList] at hne ⊢
    exact Ahead.total h hne
  · have h := (holds_sortWorld (encP m) W g 0 N (places m) d' os hg hH (by rw [hsz, places_size]) i (by omega)).1
    rw [Nat.zero_add] at h
    rw [h, getElem!_pos d' i (by omega)]
    rw [List.getD_eq_getElem?_getD, List.getElem?_map, List.getElem?_eq_getElem (by simpa using (by omega : i < d'.size))]
    rfl

set_option maxHeartbeats 2000000 in
set_option maxRecDepth 100000 in
theorem order_any (rb m : Nat) (rs : List Int) (w : World) (hm : m + 1 ≤ 64) (hl : rs.length = m + 1) (hr : IRow 2 w rb rs) :
    Calls Tryz.prog 107 #[.slice (some ⟨rb, 0, none⟩) (m + 1) (m + 1)] w fun e w' => ∃ g L, e = .returned (.slice (some ⟨g, 0, none⟩) (m + 1) (m + 1)) ∧ w.heap.size ≤ g ∧ Ordered (fun i => rs.getD i 0) (m + 1) g w' L ∧ Below w.heap.size w w' := by
  have hmk := make41 (m + 1) (by omega)
  have hrb := hr.lt
  replace hl := Lib.hid hl
  replace hr := Lib.hid hr
  generalize hn : m + 1 = n at *
  replace hn := Lib.hid hn
  have hn0 : 1 ≤ n := by have := hn.out; omega
  go_enter Tryz.func107, Tryz.ntmps107
  go_wp2_with fail
  go_loopw [10] (fun i wr => ∃ k : Nat, k ≤ n ∧ i = .int .i64 k ∧ IRow 3 wr w.heap.size (laid n k) ∧ Below w.heap.size w wr) (fun i _ => n - (intOf i).toNat)
  case atStart => exact ⟨0, by omega, rfl, by rw [laid_zero]; exact IRow.made 3 w n, (Below.refl _ _).alloc (Nat.le_refl _) _⟩
  case round =>
    obtain ⟨k, hk, rfl, hrow, hbel⟩ := hrel
    by_cases hlt : k < n
    · have c0 := hrow.cell (i := k) (by rw [laid_length]; exact hlt)
      have f0 := hrow.free (i := k)
      replace hrow := Lib.hid hrow
      replace hbel := Lib.hid hbel
      have hkz : (k : Int) < (n : Int) := by omega
      go_wp2_with fail
      go_roundw
      case rel =>
        refine ⟨k + 1, by omega, by go_num, ?_, hbel.out.setCell (Nat.le_refl _) _⟩
        rw [← laid_set n k hlt]
        exact hrow.out.set k
      case measure => simp [intOf]; omega
    · have hkn : k = n := by omega
      subst hkn
      have hrw := hr.out.kept hbel
      have hgs := hrow.lt
      have hH : Sort.Holds (encP m) wr w.heap.size 0 (places m) := fun j hj => by
        rw [places_size, hn.out] at hj
        rw [Nat.zero_add]
        refine ⟨?_, hrow.free⟩
        rw [hrow.cell (by rw [laid_length]; exact hj), laid_at k j hj, places_at m j (by rw [hn.out]; exact hj)]
        rfl
      have hcon := sort_places (fun i => rs.getD i 0) m rb 0 k k w.heap.size 0 k (places m) wr hn.out.symm (by omega) (by rw [places_size, hn.out]; omega)
        (fun i hi => by rw [Nat.zero_add]; exact hrw.cell (by rw [hl.out]; exact hi)) hrw.lt (by omega) hH hgs
      rw [places_size, hn.out] at hcon
      replace hrow := Lib.hid hrow
      replace hbel := Lib.hid hbel
      replace hH := Lib.hid hH
      clear hrw
      go_wp2_with (first | (go_at_call 118; refine hcon.mono ?_; rintro e w2 hS; have he := hS.1; subst he; replace hS := Lib.hid hS))
      go_ret
      obtain ⟨L, hL⟩ := ordered_of_sorts hS.out hH.out hgs
      rw [hn.out] at hL
      refine ⟨w.heap.size, L, rfl, Nat.le_refl _, hL, ?_⟩
      obtain ⟨_, d', N, os, _, _, rfl⟩ := hS.out
      exact hbel.out.trans (below_sort _ _ _ _ _ _ _ _ (Nat.le_refl _) (Nat.le_of_lt hgs))
end Go.Proofs.YthocnlalahknjaaGreat
namespace Go.Proofs.YthocnlalahknjaaGreat
set_option linter.unusedVariables false

def quos (T S : Int) (zs : List Int) : List Int := zs.map fun z => T * z / S
def rems (T S : Int) (zs : List Int) : List Int := zs.map fun z => T * z % S

theorem quos_len (T S : Int) (zs : List Int) : (quos T S zs).length = zs.length := by simp [quos]
theorem rems_len (T S : Int) (zs : List Int) : (rems T S zs).length = zs.length := by simp [rems]
theorem getD_map (f : Int → Int) (h0 : f 0 = 0) (zs : List Int) (i : Nat) : (zs.map f).getD i 0 = f (zs.getD i 0) := by
  rw [List.getD_eq_getElem?_getD, List.getD_eq_getElem?_getD, List.getElem?_map]
  cases zs[i]? with
  | none => simp [h0]
  | some z => rfl
theorem quos_at (T S : Int) (zs : List Int) (i : Nat) : (quos T S zs).getD i 0 = T * zs.getD i 0 / S := getD_map _ (by simp) zs i
theorem rems_at (T S : Int) (zs : List Int) (i : Nat) : (rems T S zs).getD i 0 = T * zs.getD i 0 % S := getD_map _ (by simp) zs i

theorem sum_nonneg {l : List Int} (h : ∀ z ∈ l, 0 ≤ z) : 0 ≤ sumL l := by
  induction l with
  | nil => simp [sumL]
  | cons a l ih =>
    have h1 := h a (by simp)
    have h2 := ih fun z hz => h z (by simp [hz])
    simp only [sumL]; omega

theorem mem_le_sum {l : List Int} (h : ∀ z ∈ l, 0 ≤ z) : ∀ z ∈ l, z ≤ sumL l := by
  induction l with
  | nil => intro z hz; simp at hz
  | cons a l ih =>
    intro z hz
    have h1 := h a (by simp)
    have h2 := sum_nonneg (l := l) fun z hz => h z (by simp [hz])
    have h3 := ih fun z hz => h z (by simp [hz])
    simp only [sumL]
    rcases List.mem_cons.1 hz with e | e
    · omega
    · have := h3 z e; omega

theorem sum_quo_rem (T S : Int) (hS : 1 ≤ S) (zs : List Int) : S * sumL (quos T S zs) + sumL (rems T S zs) = T * sumL zs := by
  induction zs with
  | nil => simp [quos, rems, sumL]
  | cons z zs ih =>
    have h := Int.mul_ediv_add_emod (T * z) S
    simp only [quos, rems, List.map_cons, sumL] at ih ⊢
    rw [Int.mul_add, Int.mul_add]
    omega

theorem rems_bd (T S : Int) (hS : 1 ≤ S) (zs : List Int) : ∀ r ∈ rems T S zs, 0 ≤ r ∧ r < S := by
  intro r hr
  simp only [rems, List.mem_map] at hr
  obtain ⟨z, _, rfl⟩ := hr
  exact ⟨Int.emod_nonneg _ (by omega), Int.emod_lt_of_pos _ (by omega)⟩

theorem quos_nonneg (T S : Int) (hT : 0 ≤ T) (hS : 1 ≤ S) (zs : List Int) (hz : ∀ z ∈ zs, 0 ≤ z) : ∀ q ∈ quos T S zs, 0 ≤ q := by
  intro q hq
  simp only [quos, List.mem_map] at hq
  obtain ⟨z, h, rfl⟩ := hq
  exact Int.ediv_nonneg (Int.mul_nonneg hT (hz z h)) (by omega)

/-- a sum of terms below S, of which P are above 0 -/
theorem sum_le_pos (S : Int) (hS : 1 ≤ S) : ∀ l : List Int, (∀ r ∈ l, 0 ≤ r ∧ r < S) → sumL l ≤ (S - 1) * (l.countP fun r => decide (0 < r) : Nat) := by
  intro l
  induction l with
  | nil => intro _; simp [sumL]
  | cons a l ih =>
    intro h
    have h1 := h a (by simp)
    have h2 := ih fun r hr => h r (by simp [hr])
    simp only [sumL, List.countP_cons]
    by_cases ha : 0 < a
    · simp only [ha, decide_true, if_true]
      rw [Int.natCast_add, Int.mul_add]
      simp; omega
    · simp only [ha, decide_false, Bool.false_eq_true, if_false]
      simp; omega

def missing (T S : Int) (zs : List Int) : Int := T - sumL (quos T S zs)

theorem missing_eq (T : Int) (zs : List Int) (hS : 1 ≤ sumL zs) : sumL (rems T (sumL zs) zs) = sumL zs * missing T (sumL zs) zs := by
  have h := sum_quo_rem T (sumL zs) hS zs
  unfold missing
  rw [Int.mul_sub, Int.mul_comm (sumL zs) T]
  omega

theorem missing_nonneg (T : Int) (zs : List Int) (hS : 1 ≤ sumL zs) : 0 ≤ missing T (sumL zs) zs := by
  have h1 := missing_eq T zs hS
  have h2 := sum_nonneg fun r hr => (rems_bd T (sumL zs) hS zs r hr).1
  rw [h1] at h2
  exact Int.nonneg_of_mul_nonneg_right h2 (by omega)

/-- fewer are missing than have something left over -/
theorem missing_lt (T : Int) (zs : List Int) (hS : 1 ≤ sumL zs) : missing T (sumL zs) zs = 0 ∨ missing T (sumL zs) zs < ((rems T (sumL zs) zs).countP fun r => decide (0 < r) : Nat) := by
  have h1 := missing_eq T zs hS
  have h2 := sum_le_pos (sumL zs) hS _ (rems_bd T (sumL zs) hS zs)
  have h3 := missing_nonneg T zs hS
  generalize missing T (sumL zs) zs = m at *
  generalize ((rems T (sumL zs) zs).countP fun r => decide (0 < r)) = P at *
  generalize sumL zs = S at *
  rw [h1] at h2
  by_cases hm : m = 0
  · exact Or.inl hm
  · right
    apply Int.lt_of_mul_lt_mul_left (a := S) _ (by omega)
    have : (S - 1) * (P : Int) = S * P - P := by rw [Int.sub_mul, Int.one_mul]
    by_cases hP : P = 0
    · subst hP
      simp at h2
      have : 0 < S * m := Int.mul_pos (by omega) (by omega)
      omega
    · omega

theorem missing_le (T : Int) (zs : List Int) (hS : 1 ≤ sumL zs) : missing T (sumL zs) zs ≤ zs.length := by
  have h := missing_lt T zs hS
  have h2 : (rems T (sumL zs) zs).countP (fun r => decide (0 < r)) ≤ (rems T (sumL zs) zs).length := List.countP_le_length
  rw [rems_len] at h2
  omega

/-- what is left still, k places on -/
theorem left_bd (T S : Int) (zs : List Int) (hT : 0 ≤ T) (hS : 1 ≤ S) (hz : ∀ z ∈ zs, 0 ≤ z) (hm : 0 ≤ missing T S zs) (k : Nat) : 0 ≤ T - sumL ((quos T S zs).take k) ∧ T - sumL ((quos T S zs).take k) ≤ T := by
  have hq := quos_nonneg T S hT hS zs hz
  have h1 : 0 ≤ sumL ((quos T S zs).take k) := sum_nonneg fun q h => hq q (List.mem_of_mem_take h)
  have h2 : 0 ≤ sumL ((quos T S zs).drop k) := sum_nonneg fun q h => hq q (List.mem_of_mem_drop h)
  have h3 : sumL (quos T S zs) = sumL ((quos T S zs).take k) + sumL ((quos T S zs).drop k) := by rw [← sumL_append, List.take_append_drop]
  unfold missing at hm
  omega

theorem quo_lt (T : Int) (zs : List Int) (hT : 0 ≤ T) (hS : 1 ≤ sumL zs) (hz : ∀ z ∈ zs, 0 ≤ z) (i : Nat) (hm : 1 ≤ missing T (sumL zs) zs) : T * zs.getD i 0 / sumL zs + 1 ≤ T := by
  have hq := quos_nonneg T (sumL zs) hT hS zs hz
  have h := mem_le_sum hq
  rw [← quos_at]
  unfold missing at hm
  by_cases hi : i < (quos T (sumL zs) zs).length
  · have := h ((quos T (sumL zs) zs).getD i 0) (by rw [List.getD_eq_getElem?_getD, List.getElem?_eq_getElem hi]; exact List.getElem_mem hi)
    omega
  · rw [List.getD_eq_getElem?_getD, List.getElem?_eq_none (by omega)]
    have := sum_nonneg hq
    simp; omega

instance (ls : Nat → Int) (a b : Nat) : Decidable (Ahead ls a b) := by unfold Ahead; infer_instance

theorem Ahead.irrefl (ls : Nat → Int) (a : Nat) : ¬ Ahead ls a a := by unfold Ahead; omega
theorem Ahead.asymm {ls : Nat → Int} {a b : Nat} (h : Ahead ls a b) : ¬ Ahead ls b a := by unfold Ahead at *; omega
theorem Ahead.trans {ls : Nat → Int} {a b c : Nat} (h : Ahead ls a b) (h' : Ahead ls b c) : Ahead ls a c := by unfold Ahead at *; omega

/-- how many of n places are ahead -/
def rank (ls : Nat → Int) (n i : Nat) : Nat := (List.range n).countP fun j => decide (Ahead ls j i)

theorem count_before {ls : Nat → Int} : ∀ {L : List Nat}, L.Pairwise (Ahead ls) → ∀ p i, L[p]? = some i → L.countP (fun j => decide (Ahead ls j i)) = p := by
  intro L
  induction L with
  | nil => intro _ p i h; simp at h
  | cons a L ih =>
    intro hp p i h
    obtain ⟨h1, h2⟩ := List.pairwise_cons.1 hp
    rw [List.countP_cons]
    cases p with
    | zero =>
      simp at h; subst h
      have : L.countP (fun j => decide (Ahead ls j a)) = 0 := by
        rw [List.countP_eq_zero]
        intro x hx
        simpa using (h1 x hx).asymm
      rw [this]
      simp [Ahead.irrefl]
    | succ p =>
      have h' : L[p]? = some i := by simpa using h
      rw [ih h2 p i h']
      have : Ahead ls a i := h1 i (List.mem_of_getElem? h')
      simp [this]

theorem rank_at {ls : Nat → Int} {n : Nat} {L : List Nat} (hp : L.Perm (List.range n)) (hs : L.Pairwise (Ahead ls)) (p i : Nat) (h : L[p]? = some i) : rank ls n i = p := by
  unfold rank
  rw [← hp.countP_eq]
  exact count_before hs p i h

theorem mem_take_iff {ls : Nat → Int} {n : Nat} {L : List Nat} (hp : L.Perm (List.range n)) (hs : L.Pairwise (Ahead ls)) (k i : Nat) (hi : i < n) : i ∈ L.take k ↔ rank ls n i < k := by
  have hm : i ∈ L := hp.mem_iff.2 (List.mem_range.2 hi)
  obtain ⟨p, hlt, hpi⟩ := List.getElem_of_mem hm
  have hpi' : L[p]? = some i := by rw [List.getElem?_eq_getElem hlt, hpi]
  have hr := rank_at hp hs p i hpi'
  constructor
  · intro h
    obtain ⟨q, hq, hqi⟩ := List.getElem_of_mem h
    have hq' : q < k := by have := List.length_take (l := L) (i := k); omega
    have : L[q]? = some i := by
      rw [← hqi, List.getElem_take]; exact List.getElem?_eq_getElem _
    have := rank_at hp hs q i this
    omega
  · intro h
    rw [List.mem_take_iff_getElem]
    exact ⟨p, by omega, hpi⟩

/-- a share -/
def share (T S : Int) (zs : List Int) (i : Nat) : Int :=
  T * zs.getD i 0 / S + if (rank (fun i => (rems T S zs).getD i 0) zs.length i : Int) < missing T S zs then 1 else 0
/-- all shares -/
def shares (T : Int) (zs : List Int) : List Int := (List.range zs.length).map (share T (sumL zs) zs)
theorem shares_len (T : Int) (zs : List Int) : (shares T zs).length = zs.length := by simp [shares]
theorem shares_at (T : Int) (zs : List Int) (i : Nat) (h : i < zs.length) : (shares T zs).getD i 0 = share T (sumL zs) zs i := by
  rw [List.getD_eq_getElem?_getD, List.getElem?_eq_getElem (by rw [shares_len]; exact h)]
  simp [shares]

/-- shares, of which those of the first k have got one more -/
def given (T : Int) (zs : List Int) (L : List Nat) (k : Nat) : List Int :=
  (List.range zs.length).map fun i => T * zs.getD i 0 / sumL zs + if i ∈ L.take k then 1 else 0
theorem given_len (T : Int) (zs : List Int) (L : List Nat) (k : Nat) : (given T zs L k).length = zs.length := by simp [given]
theorem given_at (T : Int) (zs : List Int) (L : List Nat) (k i : Nat) (h : i < zs.length) : (given T zs L k).getD i 0 = T * zs.getD i 0 / sumL zs + if i ∈ L.take k then 1 else 0 := by
  rw [List.getD_eq_getElem?_getD, List.getElem?_eq_getElem (by rw [given_len]; exact h)]
  simp [given]

theorem given_zero (T : Int) (zs : List Int) (L : List Nat) : given T zs L 0 = quos T (sumL zs) zs := by
  apply List.ext_getElem
  · rw [given_len, quos_len]
  · intro i h1 h2
    simp only [given, quos, List.getElem_map, List.getElem_range, List.take_zero, List.not_mem_nil, if_false]
    rw [given_len] at h1
    rw [List.getD_eq_getElem?_getD, List.getElem?_eq_getElem h1]
    simp

theorem given_step (T : Int) (zs : List Int) (L : List Nat) (hp : L.Perm (List.range zs.length)) (k j : Nat) (hk : L[k]? = some j) :
    (given T zs L k).set j ((given T zs L k).getD j 0 + 1) = given T zs L (k + 1) ∧ j < zs.length ∧ (given T zs L k).getD j 0 = T * zs.getD j 0 / sumL zs := by
  have hj : j < zs.length := List.mem_range.1 (hp.mem_iff.1 (List.mem_of_getElem? hk))
  have hnd : L.Nodup := hp.nodup_iff.2 List.nodup_range
  obtain ⟨hkl, hkj⟩ := List.getElem?_eq_some_iff.1 hk
  have htk : L.take (k + 1) = L.take k ++ [j] := by rw [List.take_succ_eq_append_getElem hkl, hkj]
  have hnot : j ∉ L.take k := by
    intro h
    obtain ⟨q, hq, hqi⟩ := List.getElem_of_mem h
    have hq2 : q < k := by have := List.length_take (l := L) (i := k); omega
    rw [List.getElem_take] at hqi
    exact List.pairwise_iff_getElem.1 hnd q k (by omega) hkl hq2 (by rw [hqi, hkj])
  have e1 : (given T zs L k).getD j 0 = T * zs.getD j 0 / sumL zs := by rw [given_at T zs L k j hj, if_neg hnot]; omega
  refine ⟨?_, hj, e1⟩
  rw [e1]
  apply List.ext_getElem
  · rw [List.length_set, given_len, given_len]
  · intro i h1 h2
    rw [List.getElem_set]
    simp only [given, List.getElem_map, List.getElem_range, htk, List.mem_append, List.mem_singleton]
    by_cases hij : j = i
    · subst hij; simp
    · have : i ≠ j := fun e => hij e.symm
      rw [if_neg hij]
      simp [this]

theorem given_all (T : Int) (zs : List Int) (L : List Nat) (hp : L.Perm (List.range zs.length)) (hs : L.Pairwise (Ahead fun i => (rems T (sumL zs) zs).getD i 0)) (m : Nat) (hm : (m : Int) = missing T (sumL zs) zs) :
    given T zs L m = shares T zs := by
  apply List.ext_getElem
  · rw [given_len, shares_len]
  · intro i h1 h2
    rw [given_len] at h1
    simp only [given, shares, List.getElem_map, List.getElem_range, share]
    rw [← hm]
    congr 1
    have h := mem_take_iff hp hs m i h1
    by_cases hin : i ∈ L.take m
    · rw [if_pos hin, if_pos (by have := h.1 hin; omega)]
    · rw [if_neg hin, if_neg (by intro hc; exact hin (h.2 (by omega)))]

end Go.Proofs.YthocnlalahknjaaGreat
namespace Go.Proofs.YthocnlalahknjaaGreat
open Go.RowKit
set_option linter.unusedVariables false

/-- the error that Shares tells -/
def shE (T : Int) (zs : List Int) : Int := if chk T zs ≠ 0 then chk T zs else if 9223372036854775807 < sumL zs then 3 else if sumL zs = 0 then 1 else 0

/-- what Shares hands back -/
def ShOut (T : Int) (zs : List Int) (w w' : World) (e : Ending) : Prop :=
  (shE T zs ≠ 0 ∧ e = .returned (.tuple #[.slice none 0 0, .int .i64 (shE T zs)])) ∨
  (shE T zs = 0 ∧ ∃ g, e = .returned (.tuple #[.slice (some ⟨g, 0, none⟩) zs.length zs.length, .int .i64 0]) ∧ w.heap.size ≤ g ∧ IRow 2 w' g (shares T zs))

theorem chk_zero {T : Int} {zs : List Int} (h : chk T zs = 0) : zs.length ≤ 64 ∧ 0 ≤ T ∧ ∀ z ∈ zs, 0 ≤ z := by
  unfold chk at h
  by_cases h1 : 64 < zs.length
  · rw [if_pos h1] at h; omega
  · rw [if_neg h1] at h
    by_cases h2 : T < 0
    · rw [if_pos h2] at h; omega
    · rw [if_neg h2] at h
      by_cases h3 : ∃ z ∈ zs, z < 0
      · rw [if_pos h3] at h; omega
      · exact ⟨by omega, by omega, fun z hz => by
          by_cases hn : z < 0
          · exact absurd ⟨z, hz, hn⟩ h3
          · omega⟩

set_option maxHeartbeats 1000000 in
set_option maxRecDepth 100000 in
theorem shares_err1 (T : Int) (p : Option Addr) (len cap : Nat) (zs : List Int) (w : World) (hT : Amt T) (hs : Seq64 w p len zs) (hc : chk T zs ≠ 0) :
    Calls Tryz.prog 82 #[.int .i64 T, .slice p len cap] w fun e w' => w' = w ∧ e = .returned (.tuple #[.slice none 0 0, .int .i64 (chk T zs)]) := by
  have hcon := check_any T p len cap zs w hT hs
  generalize chk T zs = c at *
  clear hs hT
  go_enter Tryz.func82, Tryz.ntmps82
  go_wp2_with (first | (go_at_call 105; refine hcon.mono ?_; rintro e w' ⟨rfl, rfl⟩))
  go_ret2
  exact ⟨rfl, rfl⟩

set_option maxHeartbeats 1000000 in
set_option maxRecDepth 100000 in
theorem shares_err2 (T : Int) (p : Option Addr) (len cap : Nat) (zs : List Int) (w : World) (hT : Amt T) (hs : Seq64 w p len zs) (hc : chk T zs = 0) (hS : 9223372036854775807 < sumL zs) :
    Calls Tryz.prog 82 #[.int .i64 T, .slice p len cap] w fun e w' => Below w.heap.size w w' ∧ e = .returned (.tuple #[.slice none 0 0, .int .i64 3]) := by
  have hcon := check_any T p len cap zs w hT hs
  have hsum := sum_any p len cap zs w hs
  rw [← (fit_no (sumL zs) (Or.inr hS)).1, ← (fit_no (sumL zs) (Or.inr hS)).2] at hsum
  rw [hc] at hcon
  clear hs hT hc hS
  go_enter Tryz.func82, Tryz.ntmps82
  go_wp2_with (first | (go_at_call 105; refine hcon.mono ?_; rintro e w' ⟨rfl, rfl⟩) | (go_at_call 19; refine hsum.mono ?_; rintro e w' ⟨rfl, hb⟩))
  go_ret2
  exact ⟨hb, rfl⟩

set_option maxHeartbeats 1000000 in
set_option maxRecDepth 100000 in
theorem shares_err3 (T : Int) (p : Option Addr) (len cap : Nat) (zs : List Int) (w : World) (hT : Amt T) (hs : Seq64 w p len zs) (hc : chk T zs = 0) (hS : sumL zs = 0) :
    Calls Tryz.prog 82 #[.int .i64 T, .slice p len cap] w fun e w' => Below w.heap.size w w' ∧ e = .returned (.tuple #[.slice none 0 0, .int .i64 1]) := by
  have hcon := check_any T p len cap zs w hT hs
  have hsum := sum_any p len cap zs w hs
  rw [hS, ← (fit_yes 0 (by omega) (by omega)).1, ← (fit_yes 0 (by omega) (by omega)).2] at hsum
  rw [hc] at hcon
  clear hs hT hc hS
  go_enter Tryz.func82, Tryz.ntmps82
  go_wp2_with (first | (go_at_call 105; refine hcon.mono ?_; rintro e w' ⟨rfl, rfl⟩) | (go_at_call 19; refine hsum.mono ?_; rintro e w' ⟨rfl, hb⟩))
  go_ret2
  exact ⟨hb, rfl⟩

/-- n places, k of them laid by f -/
def laidBy (f : Nat → Int) (n k : Nat) : List Int := (List.range n).map fun i => if i < k then f i else 0
theorem laidBy_zero (f : Nat → Int) (n : Nat) : laidBy f n 0 = List.replicate n 0 := by
  apply List.ext_getElem
  · simp [laidBy]
  · intro i h1 h2
    simp [laidBy]
theorem laidBy_length (f : Nat → Int) (n k : Nat) : (laidBy f n k).length = n := by simp [laidBy]
theorem laidBy_set (f : Nat → Int) (n k : Nat) (h : k < n) : (laidBy f n k).set k (f k) = laidBy f n (k + 1) := by
  apply List.ext_getElem
  · simp [laidBy]
  · intro i h1 h2
    rw [List.getElem_set]
    simp only [laidBy, List.getElem_map, List.getElem_range]
    by_cases hik : k = i
    · subst hik; simp
    · rw [if_neg hik]
      by_cases h3 : i < k
      · rw [if_pos h3, if_pos (by omega)]
      · rw [if_neg h3, if_neg (by omega)]
theorem laidBy_all (l : List Int) : laidBy (fun i => l.getD i 0) l.length l.length = l := by
  apply List.ext_getElem
  · simp [laidBy]
  · intro i h1 h2
    simp only [laidBy, List.getElem_map, List.getElem_range]
    rw [if_pos h2, List.getD_eq_getElem?_getD, List.getElem?_eq_getElem h2]
    rfl

end Go.Proofs.YthocnlalahknjaaGreat
namespace Go.Proofs.YthocnlalahknjaaGreat
open Go.RowKit
set_option linter.unusedVariables false

theorem sum_take_quo (T S : Int) (zs : List Int) (k : Nat) (h : k < zs.length) : sumL ((quos T S zs).take (k + 1)) = sumL ((quos T S zs).take k) + T * zs.getD k 0 / S := by
  rw [sum_take (quos T S zs) k (by rw [quos_len]; exact h), quos_at]

set_option maxHeartbeats 4000000 in
set_option maxRecDepth 100000 in
theorem shares_main (T : Int) (p : Option Addr) (len cap : Nat) (zs : List Int) (w : World) (hT : Amt T) (hs : Seq64 w p len zs) (hc : chk T zs = 0) (hS1 : 1 ≤ sumL zs) (hS2 : sumL zs ≤ 9223372036854775807) :
    Calls Tryz.prog 82 #[.int .i64 T, .slice p len cap] w fun e w' => Below w.heap.size w w' ∧ ∃ g, e = .returned (.tuple #[.slice (some ⟨g, 0, none⟩) zs.length zs.length, .int .i64 0]) ∧ w.heap.size ≤ g ∧ IRow 2 w' g (shares T zs) := by
  obtain ⟨h64, hT0, hz0⟩ := chk_zero hc
  obtain ⟨_, hT1⟩ := hT
  have hcon := check_any T p len cap zs w ⟨by omega, hT1⟩ hs
  have hsum := sum_any p len cap zs w hs
  rw [← (fit_yes (sumL zs) (by omega) hS2).1, ← (fit_yes (sumL zs) (by omega) hS2).2] at hsum
  rw [hc] at hcon
  have hmiss0 := missing_nonneg T zs hS1
  have hmiss1 := missing_le T zs hS1
  obtain ⟨mk, hmk⟩ := Int.eq_ofNat_of_zero_le hmiss0
  obtain ⟨hl, hz, hm, hcells⟩ := hs
  rw [hl] at h64 hmiss1
  have hne : len ≠ 0 := by
    intro h0
    rw [h0] at hl
    have : zs = [] := List.length_eq_zero_iff.1 hl
    subst this
    simp [sumL] at hS1
  obtain ⟨m, hm1⟩ : ∃ m, m + 1 = len := ⟨len - 1, by omega⟩
  have hquo : ∀ k, k < len → 0 ≤ zs.getD k 0 ∧ zs.getD k 0 ≤ sumL zs := fun k hk => by
    have hin : zs.getD k 0 ∈ zs := by rw [List.getD_eq_getElem?_getD, List.getElem?_eq_getElem (by rw [hl]; exact hk)]; exact List.getElem_mem _
    exact ⟨hz0 _ hin, mem_le_sum hz0 _ hin⟩
  have hleft := left_bd T (sumL zs) zs hT0 hS1 hz0 hmiss0
  have hqlt : 1 ≤ mk → ∀ i, T * zs.getD i 0 / sumL zs + 1 ≤ T := fun h i => quo_lt T zs hT0 hS1 hz0 i (by rw [hmk]; omega)
  have hstep : ∀ k, k < len → sumL ((quos T (sumL zs) zs).take (k + 1)) = sumL ((quos T (sumL zs) zs).take k) + T * zs.getD k 0 / sumL zs := fun k hk => sum_take_quo T (sumL zs) zs k (by rw [hl]; exact hk)
  have hend : T - sumL ((quos T (sumL zs) zs).take len) = (mk : Int) := by
    rw [List.take_of_length_le (by rw [quos_len, hl]; exact Nat.le_refl _)]; exact hmk
  have hq0 : laidBy (fun i => T * zs.getD i 0 / sumL zs) len len = quos T (sumL zs) zs := by
    have := laidBy_all (quos T (sumL zs) zs)
    rw [quos_len, hl] at this
    simpa only [quos_at] using this
  have hr0 : laidBy (fun i => T * zs.getD i 0 % sumL zs) len len = rems T (sumL zs) zs := by
    have := laidBy_all (rems T (sumL zs) zs)
    rw [rems_len, hl] at this
    simpa only [rems_at] using this
  have hrl : (rems T (sumL zs) zs).length = m + 1 := by rw [rems_len, hl, hm1]
  have mk22 := make22 len (by omega)
  have mk38 := make38 len (by omega)
  have hmkle : mk ≤ len := by omega
  have hfin := given_all T zs
  rw [hl] at hfin
  have hgst := given_step T zs
  rw [hl] at hgst
  replace hl := Lib.hid hl
  replace hz := Lib.hid hz
  replace hcells := Lib.hid hcells
  replace hquo := Lib.hid hquo
  replace hleft := Lib.hid hleft
  replace hqlt := Lib.hid hqlt
  replace hstep := Lib.hid hstep
  replace hend := Lib.hid hend
  replace hq0 := Lib.hid hq0
  replace hr0 := Lib.hid hr0
  replace hrl := Lib.hid hrl
  replace hfin := Lib.hid hfin
  replace hgst := Lib.hid hgst
  replace hmk := Lib.hid hmk
  replace hm1 := Lib.hid hm1
  replace hz0 := Lib.hid hz0
  clear hc hmiss0 hmiss1
  generalize hSe : sumL zs = S at *
  replace hSe := Lib.hid hSe
  go_enter Tryz.func82, Tryz.ntmps82
  go_upto_region 13 with (first | (go_at_call 105; refine hcon.mono ?_; rintro e w' ⟨rfl, hww⟩; replace hww := hww.symm; subst hww) | (go_at_call 19; refine hsum.mono ?_; rintro e w1 ⟨rfl, hb1⟩))
  clear hcon hsum mk22 mk38
  have hb2 : Below w.heap.size w ((w1.alloc (Obj.cells (zeros len) 2)).alloc (Obj.cells (zeros len) 2)) := (hb1.alloc hb1.size _).alloc (by simp; exact Nat.le_succ_of_le hb1.size) _
  have hGle := hb1.size
  generalize hG : w1.heap.size = G at *
  have r1 : IRow 2 ((w1.alloc (Obj.cells (zeros len) 2)).alloc (Obj.cells (zeros len) 2)) G (laidBy (fun i => T * zs.getD i 0 / S) len 0) := by
    rw [laidBy_zero, ← hG]; exact (IRow.made 2 w1 len).alloc _
  have r2 : IRow 2 ((w1.alloc (Obj.cells (zeros len) 2)).alloc (Obj.cells (zeros len) 2)) (G + 1) (laidBy (fun i => T * zs.getD i 0 % S) len 0) := by
    rw [laidBy_zero]
    have := IRow.made 2 (w1.alloc (Obj.cells (zeros len) 2)) len
    simp only [World.size_alloc, hG] at this
    exact this
  generalize ((w1.alloc (Obj.cells (zeros len) 2)).alloc (Obj.cells (zeros len) 2)) = w2 at *
  clear hb1 hG w1
  rw [show (S == 0) = false from by simp; omega]
  go_loopw [11, 41] (fun ms i wr => ∃ k : Nat, k ≤ len ∧ i = .int .i64 k ∧ ms = .int .i64 (T - sumL ((quos T S zs).take k)) ∧ IRow 2 wr G (laidBy (fun i => T * zs.getD i 0 / S) len k) ∧ IRow 2 wr (G + 1) (laidBy (fun i => T * zs.getD i 0 % S) len k) ∧ Below w.heap.size w wr) (fun _ i _ => len - (intOf i).toNat)
  case atStart => exact ⟨0, by omega, rfl, by simp [sumL], r1, r2, hb2⟩
  case round =>
    clear r1 r2 hb2
    obtain ⟨k, hk, rfl, rfl, r1, r2, hb2⟩ := hrel
    by_cases hlt : k < len
    · obtain ⟨b, off, rfl, hblt, hc⟩ := hcells.out.resolve_left (by omega)
      have hcell : wr.cell? ⟨b, off + k, none⟩ = some (.int .i64 (zs.getD k 0)) := (hb2.cell (p := ⟨b, off + k, none⟩) hblt).trans (hc k hlt)
      obtain ⟨q0, q1⟩ := hquo.out k hlt
      obtain ⟨z0, z1⟩ := hz.out k
      have hpart := part_any T (zs.getD k 0) S wr hT0 hT1 q0 q1 hS1 hS2
      have hst := hstep.out k hlt
      obtain ⟨l0, l1⟩ := hleft.out k
      obtain ⟨l2, l3⟩ := hleft.out (k + 1)
      have e1 := laidBy_set (fun i => T * zs.getD i 0 / S) len k hlt
      have e2 := laidBy_set (fun i => T * zs.getD i 0 % S) len k hlt
      have hkz : (k : Int) < (len : Int) := by omega
      rw [hst] at l2 l3
      replace hst := Lib.hid hst
      replace e1 := Lib.hid e1
      replace e2 := Lib.hid e2
      generalize T * zs.getD k 0 / S = qk at *
      generalize T * zs.getD k 0 % S = rk at *
      generalize zs.getD k 0 = z at *
      generalize sumL (List.take k (quos T S zs)) = sk at *
      replace r1 := Lib.hid r1
      replace r2 := Lib.hid r2
      replace hb2 := Lib.hid hb2
      clear hc
      go_wp2_with (first | (go_at_call 106; refine hpart.mono ?_; rintro e w3 ⟨rfl, hb3⟩
                            have s1 := r1.out.kept hb3; have s2 := r2.out.kept hb3
                            have c1 := s1.cell (i := k) (by rw [laidBy_length]; exact hlt); have c2 := s2.cell (i := k) (by rw [laidBy_length]; exact hlt)
                            have f1 := s1.free (i := k); have f2 := s2.free (i := k)
                            replace s1 := Lib.hid s1; replace s2 := Lib.hid s2; replace hb3 := Lib.hid hb3))
      go_roundw
      case rel =>
        refine ⟨k + 1, by omega, by go_num, ?_, ?_, ?_, ?_⟩
        · rw [hst.out]; congr 1; omega
        · rw [← e1.out]; exact (s1.out.set qk).other (by simp) _
        · rw [← e2.out]; exact (s2.out.other (by simp) _).set rk
        · exact ((hb2.out.trans (hb3.out.mono hb2.out.size)).setCell (by simpa using hGle) _).setCell (by simp; omega) _
      case measure => simp [intOf]; omega
    · have hkn : k = len := by omega
      subst hkn
      rw [hq0.out] at r1
      rw [hr0.out] at r2
      have hord := order_any (G + 1) m (rems T S zs) wr (by have := hm1.out; omega) hrl.out r2
      rw [hm1.out] at hord
      have hgz := given_zero T zs
      rw [hSe.out] at hgz
      have hmkz : (mk : Int) ≤ (k : Int) := by omega
      replace hgz := Lib.hid hgz
      replace r1 := Lib.hid r1
      replace hb2 := Lib.hid hb2
      clear r2
      rw [hend.out]
      go_upto_region 19 with (first | (go_at_call 107; refine hord.mono ?_; rintro e w3 ⟨g3, L, rfl, hg3, hO, hb3⟩))
      have hGlt := r1.out.lt
      have hne3 : G ≠ g3 := by omega
      have hbw : Below w.heap.size w w3 := hb2.out.trans (hb3.mono hb2.out.size)
      have s1 := r1.out.kept hb3
      rw [← hgz.out L] at s1
      have hOc := hO.cells
      have hLlen : L.length = k := by have := hO.perm.length_eq; simpa using this
      replace hO := Lib.hid hO
      clear hord hb3
      go_loopw [71] (fun i wv => ∃ j : Nat, j ≤ mk ∧ i = .int .i64 j ∧ IRow 2 wv G (given T zs L j) ∧ (∀ i, i < k → wv.cell? ⟨g3, i, none⟩ = some (.int .i64 ((L.getD i 0 : Nat) : Int))) ∧ Below w.heap.size w wv) (fun i _ => mk - (intOf i).toNat)
      case atStart => exact ⟨0, by omega, rfl, s1, hOc, hbw⟩
      case round =>
        clear s1 hOc hbw
        obtain ⟨j, hj, rfl, s1, hOc, hbw⟩ := hrel
        by_cases hlt2 : j < mk
        · have hLj : L[j]? = some (L.getD j 0) := by
            rw [List.getD_eq_getElem?_getD, List.getElem?_eq_getElem (by omega)]; rfl
          obtain ⟨g1, g2, g4⟩ := hgst.out L hO.out.perm j (L.getD j 0) hLj
          have hcell := hOc j (by omega)
          have hql := hqlt.out (by omega) (L.getD j 0)
          have c1 := s1.cell (i := L.getD j 0) (by rw [given_len, hl.out]; exact g2)
          have f1 := s1.free (i := L.getD j 0)
          rw [g4] at c1 g1
          obtain ⟨n0, n1⟩ := hquo.out (L.getD j 0) g2
          have q0 : 0 ≤ T * zs.getD (L.getD j 0) 0 / S := Int.ediv_nonneg (Int.mul_nonneg hT0 n0) (by omega)
          generalize T * zs.getD (L.getD j 0) 0 / S = qk at *
          generalize L.getD j 0 = x at *
          have hxz : (x : Int) < (k : Int) := by omega
          have hjz : (j : Int) < (mk : Int) := by omega
          replace s1 := Lib.hid s1
          replace g1 := Lib.hid g1
          replace hOc := Lib.hid hOc
          replace hbw := Lib.hid hbw
          replace hLj := Lib.hid hLj
          go_wp2_with fail
          go_roundw
          case rel =>
            refine ⟨j + 1, by omega, by go_num, ?_, fun i hi => ?_, hbw.out.setCell (by simpa using hGle) _⟩
            · rw [← g1.out]; exact s1.out.set (qk + 1)
            · rw [World.cell?_setCell_other _ _ _ _ (by intro e; simp at e)]
              exact hOc.out i hi
          case measure => simp [intOf]; omega
        · have hjn : j = mk := by omega
          subst hjn
          have hfn := hfin.out L hO.out.perm hO.out.sorted j hmk.out.symm
          rw [hfn] at s1
          go_wp2_with fail
          go_ret2
          refine ⟨hbw, G, ?_, hGle, s1⟩
          rw [hl.out]
          rfl

theorem shares_any (T : Int) (p : Option Addr) (len cap : Nat) (zs : List Int) (w : World) (hT : Amt T) (hs : Seq64 w p len zs) :
    Calls Tryz.prog 82 #[.int .i64 T, .slice p len cap] w fun e w' => Below w.heap.size w w' ∧ ShOut T zs w w' e := by
  by_cases hc : chk T zs = 0
  · obtain ⟨h64, hT0, hz0⟩ := chk_zero hc
    have hS0 := sum_nonneg hz0
    by_cases h3 : 9223372036854775807 < sumL zs
    · have e : shE T zs = 3 := by unfold shE; rw [if_neg (by simp [hc]), if_pos h3]
      refine (shares_err2 T p len cap zs w hT hs hc h3).mono ?_
      rintro e' w' ⟨hb, rfl⟩
      exact ⟨hb, Or.inl ⟨by rw [e]; decide, by rw [e]⟩⟩
    · by_cases h1 : sumL zs = 0
      · have e : shE T zs = 1 := by unfold shE; rw [if_neg (by simp [hc]), if_neg h3, if_pos h1]
        refine (shares_err3 T p len cap zs w hT hs hc h1).mono ?_
        rintro e' w' ⟨hb, rfl⟩
        exact ⟨hb, Or.inl ⟨by rw [e]; decide, by rw [e]⟩⟩
      · have e : shE T zs = 0 := by unfold shE; rw [if_neg (by simp [hc]), if_neg h3, if_neg h1]
        refine (shares_main T p len cap zs w hT hs hc (by omega) (by omega)).mono ?_
        rintro e' w' ⟨hb, hg⟩
        exact ⟨hb, Or.inr ⟨e, hg⟩⟩
  · have e : shE T zs = chk T zs := by unfold shE; rw [if_pos hc]
    refine (shares_err1 T p len cap zs w hT hs hc).mono ?_
    rintro e' w' ⟨rfl, rfl⟩
    exact ⟨Below.refl _ _, Or.inl ⟨by rw [e]; exact hc, by rw [e]⟩⟩

end Go.Proofs.YthocnlalahknjaaGreat
namespace Go.Proofs.YthocnlalahknjaaGreat
open Go.RowKit
set_option linter.unusedVariables false

theorem IRow.seq {w : World} {g n : Nat} {ds : List Int} (h : IRow 2 w g ds) (hl : ds.length = n) (hn : n ≤ 4611686018427387904) (ha : ∀ i, Amt (ds.getD i 0)) : Seq64 w (some ⟨g, 0, none⟩) n ds :=
  ⟨hl, ha, hn, .inr ⟨g, 0, rfl, h.lt, fun i hi => by rw [Nat.zero_add]; exact h.cell (by omega)⟩⟩

theorem laidBy_ones (n : Nat) : laidBy (fun _ => 1) n n = List.replicate n 1 := by
  apply List.ext_getElem
  · simp [laidBy]
  · intro i h1 h2
    have : i < n := by simpa using h2
    simp [laidBy, this]

theorem ones_amt (n i : Nat) : Amt ((List.replicate n (1 : Int)).getD i 0) := by
  refine amt_getD _ (fun z hz => ?_) i
  rw [List.eq_of_mem_replicate hz]; exact ⟨by decide, by decide⟩

/-- what Even hands back -/
def EvOut (T n : Int) (w w' : World) (e : Ending) : Prop :=
  (64 < n ∧ e = .returned (.tuple #[.slice none 0 0, .int .i64 4])) ∨ (n < 1 ∧ e = .returned (.tuple #[.slice none 0 0, .int .i64 1])) ∨
  (∃ m : Nat, n = m ∧ 1 ≤ m ∧ m ≤ 64 ∧ ShOut T (List.replicate m 1) w w' e)

set_option maxHeartbeats 2000000 in
set_option maxRecDepth 100000 in
theorem even_any (T n : Int) (w : World) (hT : Amt T) (hn : Amt n) :
    Calls Tryz.prog 63 #[.int .i64 T, .int .i64 n] w fun e w' => Below w.heap.size w w' ∧ EvOut T n w w' e := by
  replace hT := Lib.hid hT
  obtain ⟨n0, n1⟩ := hn
  by_cases h64 : 64 < n
  · go_enter Tryz.func63, Tryz.ntmps63
    go_wp2_with fail
    go_ret2
    exact ⟨Below.refl _ _, Or.inl ⟨h64, rfl⟩⟩
  · by_cases h1 : n < 1
    · go_enter Tryz.func63, Tryz.ntmps63
      go_wp2_with fail
      go_ret2
      exact ⟨Below.refl _ _, Or.inr (Or.inl ⟨h1, rfl⟩)⟩
    · obtain ⟨m, rfl⟩ := Int.eq_ofNat_of_zero_le (by omega : 0 ≤ n)
      have mk22 := make22 m (by omega)
      go_enter Tryz.func63, Tryz.ntmps63
      go_upto_region 7 with (fail)
      clear mk22
      go_loopw [16] (fun i wr => ∃ k : Nat, k ≤ m ∧ i = .int .i64 k ∧ IRow 2 wr w.heap.size (laidBy (fun _ => 1) m k) ∧ Below w.heap.size w wr) (fun i _ => m - (intOf i).toNat)
      case atStart => exact ⟨0, by omega, rfl, by rw [laidBy_zero]; exact IRow.made 2 w m, (Below.refl _ _).alloc (Nat.le_refl _) _⟩
      case round =>
        obtain ⟨k, hk, rfl, hrow, hbel⟩ := hrel
        by_cases hlt : k < m
        · have c0 := hrow.cell (i := k) (by rw [laidBy_length]; exact hlt)
          have f0 := hrow.free (i := k)
          have hkz : (k : Int) < (m : Int) := by omega
          replace hrow := Lib.hid hrow
          replace hbel := Lib.hid hbel
          go_wp2_with fail
          go_roundw
          case rel =>
            refine ⟨k + 1, by omega, by go_num, ?_, hbel.out.setCell (Nat.le_refl _) _⟩
            rw [← laidBy_set _ m k hlt]
            exact hrow.out.set 1
          case measure => simp [intOf]; omega
        · have hkn : k = m := by omega
          subst hkn
          rw [laidBy_ones] at hrow
          have hcon := shares_any T (some ⟨w.heap.size, 0, none⟩) k k (List.replicate k 1) wr hT.out (hrow.seq (by simp) (by omega) (ones_amt k))
          replace hrow := Lib.hid hrow
          replace hbel := Lib.hid hbel
          go_wp2_with (first | (go_at_call 82; refine hcon.mono ?_; rintro e w3 ⟨hb3, hout⟩; rcases hout with ⟨hE, rfl⟩ | ⟨hE, g, rfl, hg, hI⟩))
          · go_ret2
            exact ⟨hbel.out.trans (hb3.mono hbel.out.size), Or.inr (Or.inr ⟨k, rfl, by omega, by omega, Or.inl ⟨hE, rfl⟩⟩)⟩
          · go_ret2
            exact ⟨hbel.out.trans (hb3.mono hbel.out.size), Or.inr (Or.inr ⟨k, rfl, by omega, by omega, Or.inr ⟨hE, g, by rw [List.length_replicate]; rfl, Nat.le_trans hbel.out.size hg, hI⟩⟩)⟩

/-- what is left of the total ahead of room k -/
def leftAt (T : Int) (zs : List Int) : Nat → Int
  | 0 => T
  | k + 1 => leftAt T zs k - min (zs.getD k 0) (leftAt T zs k)
/-- what room k gets -/
def fillAt (T : Int) (zs : List Int) (k : Nat) : Int := min (zs.getD k 0) (leftAt T zs k)
def fills (T : Int) (zs : List Int) : List Int := (List.range zs.length).map (fillAt T zs)
theorem fills_len (T : Int) (zs : List Int) : (fills T zs).length = zs.length := by simp [fills]
theorem fills_at (T : Int) (zs : List Int) (i : Nat) (h : i < zs.length) : (fills T zs).getD i 0 = fillAt T zs i := by
  rw [List.getD_eq_getElem?_getD, List.getElem?_eq_getElem (by rw [fills_len]; exact h)]
  simp [fills]
theorem getD_nonneg {zs : List Int} (hz : ∀ z ∈ zs, 0 ≤ z) (i : Nat) : 0 ≤ zs.getD i 0 := by
  rw [List.getD_eq_getElem?_getD]
  cases h : zs[i]? with
  | none => simp
  | some z => exact hz z (List.mem_of_getElem? h)
theorem left_nonneg (T : Int) (zs : List Int) (hT : 0 ≤ T) (hz : ∀ z ∈ zs, 0 ≤ z) : ∀ k, 0 ≤ leftAt T zs k ∧ leftAt T zs k ≤ T
  | 0 => ⟨hT, Int.le_refl _⟩
  | k + 1 => by
    obtain ⟨h1, h2⟩ := left_nonneg T zs hT hz k
    have := getD_nonneg hz k
    simp only [leftAt]
    omega
theorem laidBy_fills (T : Int) (zs : List Int) : laidBy (fillAt T zs) zs.length zs.length = fills T zs := by
  apply List.ext_getElem
  · simp [laidBy, fills]
  · intro i h1 h2
    have : i < zs.length := by simpa [fills] using h2
    simp [laidBy, fills, this]

/-- what Fill hands back -/
def FiOut (T : Int) (zs : List Int) (w w' : World) (e : Ending) : Prop :=
  (chk T zs ≠ 0 ∧ e = .returned (.tuple #[.slice none 0 0, .int .i64 0, .int .i64 (chk T zs)])) ∨
  (chk T zs = 0 ∧ ∃ g, e = .returned (.tuple #[.slice (some ⟨g, 0, none⟩) zs.length zs.length, .int .i64 (leftAt T zs zs.length), .int .i64 0]) ∧ w.heap.size ≤ g ∧ IRow 2 w' g (fills T zs))

theorem below_drawn (w : World) (n : Nat) : Below w.heap.size w (w.drewN n) := ⟨rfl, rfl, rfl, Nat.le_refl _, fun _ _ => rfl⟩

theorem list_eq_iff (xs ys : List Int) (h : xs.length = ys.length) : xs = ys ↔ ∀ i, i < xs.length → xs.getD i 0 = ys.getD i 0 := by
  constructor
  · rintro rfl i _; rfl
  · intro hall
    apply List.ext_getElem h
    intro i h1 h2
    have := hall i h1
    rwa [List.getD_eq_getElem?_getD, List.getD_eq_getElem?_getD, List.getElem?_eq_getElem h1, List.getElem?_eq_getElem h2] at this

set_option maxHeartbeats 2000000 in
set_option maxRecDepth 100000 in
theorem same_any (p1 p2 : Option Addr) (n1 c1 n2 c2 : Nat) (xs ys : List Int) (w : World) (h1 : Seq64 w p1 n1 xs) (h2 : Seq64 w p2 n2 ys) :
    Calls Tryz.prog 22 #[.slice p1 n1 c1, .slice p2 n2 c2] w fun e w' => e = .returned (.bool (decide (xs = ys))) ∧ Below w.heap.size w w' := by
  obtain ⟨hl1, hz1, hm1, hc1⟩ := h1
  obtain ⟨hl2, hz2, hm2, hc2⟩ := h2
  replace hl1 := Lib.hid hl1
  replace hl2 := Lib.hid hl2
  replace hz1 := Lib.hid hz1
  replace hz2 := Lib.hid hz2
  replace hc1 := Lib.hid hc1
  replace hc2 := Lib.hid hc2
  by_cases hlen : n1 = n2
  · subst hlen
    go_enter Tryz.func22, Tryz.ntmps22
    go_wp2_with fail
    go_loopw [5] (fun i wr => ∃ k : Nat, k ≤ n1 ∧ i = .int .i64 k ∧ (∀ j, j < k → xs.getD j 0 = ys.getD j 0) ∧ Below w.heap.size w wr) (fun i _ => n1 - (intOf i).toNat)
    case atStart => exact ⟨0, by omega, rfl, fun j hj => by omega, Below.refl _ _⟩
    case round =>
      obtain ⟨k, hk, rfl, hall, hbel⟩ := hrel
      replace hall := Lib.hid hall
      by_cases hlt : k < n1
      · obtain ⟨b1, o1, rfl, hb1, hd1⟩ := hc1.out.resolve_left (by omega)
        obtain ⟨b2, o2, rfl, hb2, hd2⟩ := hc2.out.resolve_left (by omega)
        have e1 : wr.cell? ⟨b1, o1 + k, none⟩ = some (.int .i64 (xs.getD k 0)) := (hbel.cell (p := ⟨b1, o1 + k, none⟩) hb1).trans (hd1 k hlt)
        have e2 : wr.cell? ⟨b2, o2 + k, none⟩ = some (.int .i64 (ys.getD k 0)) := (hbel.cell (p := ⟨b2, o2 + k, none⟩) hb2).trans (hd2 k hlt)
        have hkz : (k : Int) < (n1 : Int) := by omega
        generalize ha : xs.getD k 0 = a at *
        generalize hb : ys.getD k 0 = b at *
        replace ha := Lib.hid ha
        replace hb := Lib.hid hb
        replace hbel := Lib.hid hbel
        clear hd1 hd2
        go_wp2_with fail
        go_quiet (fail)
        clear e1 e2
        by_cases hab : a = b
        · subst hab
          go_wp2_with fail
          go_roundw
          case rel =>
            refine ⟨k + 1, by omega, by go_num, fun j hj => ?_, hbel.out.trans ((below_drawn wr nq).mono hbel.out.size)⟩
            by_cases hjk : j = k
            · subst hjk; rw [ha.out, hb.out]
            · exact hall.out j (by omega)
          case measure => simp [intOf]; omega
        · go_wp2_with fail
          go_ret
          refine ⟨?_, hbel.out.trans ((below_drawn wr nq).mono hbel.out.size)⟩
          have hne : ¬ xs = ys := by
            rintro rfl
            exact hab (ha.out.symm.trans hb.out)
          rw [decide_eq_false hne]
          rfl
      · go_wp2_with fail
        go_ret
        refine ⟨?_, hbel⟩
        have he : xs = ys := (list_eq_iff xs ys (by rw [hl1.out, hl2.out])).2 fun i hi => hall.out i (by rw [hl1.out] at hi; omega)
        rw [decide_eq_true he]
        rfl
  · have hlz : ¬ (n1 : Int) = (n2 : Int) := by omega
    go_enter Tryz.func22, Tryz.ntmps22
    go_wp2_with fail
    go_ret
    refine ⟨?_, Below.refl _ _⟩
    have hne : ¬ xs = ys := by
      rintro rfl
      exact hlen (hl1.out.symm.trans hl2.out)
    rw [decide_eq_false hne]
    rfl

end Go.Proofs.YthocnlalahknjaaGreat
namespace Go.Proofs.YthocnlalahknjaaGreat
set_option linter.unusedVariables false

/-- there is an order -/
theorem order_exists (ls : Nat → Int) (n : Nat) : ∃ L : List Nat, L.Perm (List.range n) ∧ L.Pairwise (Ahead ls) := by
  let le : Nat → Nat → Bool := fun a b => !decide (Ahead ls b a)
  have htr : ∀ a b c : Nat, le a b = true → le b c = true → le a c = true := by
    intro a b c h1 h2
    simp only [le, Bool.not_eq_true', decide_eq_false_iff_not] at *
    unfold Ahead at *; omega
  have hto : ∀ a b : Nat, (le a b || le b a) = true := by
    intro a b
    simp only [le, Bool.or_eq_true, Bool.not_eq_true', decide_eq_false_iff_not]
    unfold Ahead; omega
  refine ⟨(List.range n).mergeSort le, List.mergeSort_perm _ _, ?_⟩
  have hs := List.pairwise_mergeSort (le := le) htr hto (List.range n)
  have hnd : ((List.range n).mergeSort le).Nodup := (List.mergeSort_perm _ _).nodup_iff.2 List.nodup_range
  have := hs.and hnd
  refine this.imp ?_
  rintro a b ⟨h1, h2⟩
  simp only [le, Bool.not_eq_true', decide_eq_false_iff_not] at h1
  exact Ahead.total h1 h2

theorem sum_set : ∀ (l : List Int) (j : Nat), j < l.length → sumL (l.set j (l.getD j 0 + 1)) = sumL l + 1 := by
  intro l
  induction l with
  | nil => intro j h; simp at h
  | cons a l ih =>
    intro j h
    cases j with
    | zero => simp [sumL]; omega
    | succ j =>
      have := ih j (by simpa using h)
      simp only [List.set_cons_succ, sumL, List.getD_cons_succ]
      omega

theorem sum_given (T : Int) (zs : List Int) (L : List Nat) (hp : L.Perm (List.range zs.length)) : ∀ k, k ≤ zs.length → sumL (given T zs L k) = sumL (quos T (sumL zs) zs) + k
  | 0, _ => by rw [given_zero]; simp
  | k + 1, h => by
    have hl : L.length = zs.length := by have := hp.length_eq; simpa using this
    have hk : L[k]? = some (L[k]'(by omega)) := List.getElem?_eq_getElem _
    obtain ⟨h1, h2, _⟩ := given_step T zs L hp k _ hk
    rw [← h1, sum_set _ _ (by rw [given_len]; exact h2), sum_given T zs L hp k (by omega)]
    omega

theorem sum_shares (T : Int) (zs : List Int) (hS : 1 ≤ sumL zs) : sumL (shares T zs) = T := by
  obtain ⟨L, hp, hs⟩ := order_exists (fun i => (rems T (sumL zs) zs).getD i 0) zs.length
  obtain ⟨m, hm⟩ := Int.eq_ofNat_of_zero_le (missing_nonneg T zs hS)
  have hle := missing_le T zs hS
  rw [← given_all T zs L hp hs m hm.symm, sum_given T zs L hp m (by omega), ← hm]
  unfold missing
  omega

theorem countP_range (l : List Int) (p : Int → Bool) : (List.range l.length).countP (fun j => p (l.getD j 0)) = l.countP p := by
  have h : l = (List.range l.length).map fun j => l.getD j 0 := by
    apply List.ext_getElem
    · simp
    · intro i h1 h2
      rw [List.getElem_map, List.getElem_range, List.getD_eq_getElem?_getD, List.getElem?_eq_getElem h1]
      rfl
  conv => rhs; rw [h]
  rw [List.countP_map]
  rfl

/-- who gets one more had something left over -/
theorem gets_pos (T : Int) (zs : List Int) (hS : 1 ≤ sumL zs) (i : Nat) (h : (rank (fun i => (rems T (sumL zs) zs).getD i 0) zs.length i : Int) < missing T (sumL zs) zs) :
    0 < T * zs.getD i 0 % sumL zs := by
  have hr0 : 0 ≤ T * zs.getD i 0 % sumL zs := Int.emod_nonneg _ (by omega)
  by_cases hz : T * zs.getD i 0 % sumL zs = 0
  · exfalso
    rcases missing_lt T zs hS with h0 | h1
    · omega
    · have hle : (rems T (sumL zs) zs).countP (fun r => decide (0 < r)) ≤ rank (fun i => (rems T (sumL zs) zs).getD i 0) zs.length i := by
        rw [← countP_range, rems_len]
        unfold rank
        apply List.countP_mono_left
        intro j _ hj
        simp only [decide_eq_true_eq] at hj ⊢
        left
        show (rems T (sumL zs) zs).getD i 0 < (rems T (sumL zs) zs).getD j 0
        rw [rems_at T (sumL zs) zs i, hz]
        exact hj
      omega
  · omega

theorem share_bd (T : Int) (zs : List Int) (hT : 0 ≤ T) (hS : 1 ≤ sumL zs) (hz : ∀ z ∈ zs, 0 ≤ z) (i : Nat) (hi : i < zs.length) :
    0 ≤ share T (sumL zs) zs i ∧ share T (sumL zs) zs i ≤ T ∧ (zs.getD i 0 = 0 → share T (sumL zs) zs i = 0) := by
  have hin : zs.getD i 0 ∈ zs := by rw [List.getD_eq_getElem?_getD, List.getElem?_eq_getElem hi]; exact List.getElem_mem _
  obtain ⟨q0, q1, _⟩ := part_bd T (zs.getD i 0) (sumL zs) hT (hz _ hin) (mem_le_sum hz _ hin) hS
  have hm := missing_nonneg T zs hS
  unfold share
  by_cases hg : (rank (fun i => (rems T (sumL zs) zs).getD i 0) zs.length i : Int) < missing T (sumL zs) zs
  · rw [if_pos hg]
    have hp := gets_pos T zs hS i hg
    have hl := quo_lt T zs hT hS hz i (by omega)
    refine ⟨by omega, hl, fun h0 => ?_⟩
    rw [h0] at hp
    simp at hp
  · rw [if_neg hg]
    refine ⟨by omega, by omega, fun h0 => ?_⟩
    rw [h0]; simp

theorem shares_amt (T : Int) (zs : List Int) (hT0 : 0 ≤ T) (hT : Amt T) (hS : 1 ≤ sumL zs) (hz : ∀ z ∈ zs, 0 ≤ z) (i : Nat) : Amt ((shares T zs).getD i 0) := by
  refine amt_getD _ (fun z hm => ?_) i
  simp only [shares, List.mem_map, List.mem_range] at hm
  obtain ⟨k, hk, rfl⟩ := hm
  have := share_bd T zs hT0 hS hz k hk
  have := hT.2
  exact ⟨by omega, by omega⟩

theorem shE_zero {T : Int} {zs : List Int} (h : shE T zs = 0) : chk T zs = 0 ∧ 1 ≤ sumL zs ∧ sumL zs ≤ 9223372036854775807 ∧ zs.length ≤ 64 ∧ 0 ≤ T ∧ ∀ z ∈ zs, 0 ≤ z := by
  unfold shE at h
  by_cases hc : chk T zs = 0
  · rw [if_neg (by simp [hc])] at h
    obtain ⟨h1, h2, h3⟩ := chk_zero hc
    have h4 := sum_nonneg h3
    by_cases h5 : 9223372036854775807 < sumL zs
    · rw [if_pos h5] at h; omega
    · rw [if_neg h5] at h
      by_cases h6 : sumL zs = 0
      · rw [if_pos h6] at h; omega
      · exact ⟨hc, by omega, by omega, h1, h2, h3⟩
  · rw [if_pos hc] at h; exact absurd h hc

end Go.Proofs.YthocnlalahknjaaGreat
namespace Go.Proofs.YthocnlalahknjaaGreat
set_option linter.unusedVariables false

theorem rank_lt {ls : Nat → Int} {n i k : Nat} (hi : i < n) (hk : k < n) (h : Ahead ls i k) : rank ls n i < rank ls n k := by
  obtain ⟨L, hp, hs⟩ := order_exists ls n
  obtain ⟨a, ha, hai⟩ := List.getElem_of_mem (hp.mem_iff.2 (List.mem_range.2 hi))
  obtain ⟨b, hb, hbk⟩ := List.getElem_of_mem (hp.mem_iff.2 (List.mem_range.2 hk))
  have e1 := rank_at hp hs a i (by rw [List.getElem?_eq_getElem ha, hai])
  have e2 := rank_at hp hs b k (by rw [List.getElem?_eq_getElem hb, hbk])
  rw [e1, e2]
  rcases Nat.lt_trichotomy a b with hlt | heq | hgt
  · exact hlt
  · subst heq
    rw [hai] at hbk
    subst hbk
    exact absurd h (Ahead.irrefl _ _)
  · have := List.pairwise_iff_getElem.1 hs b a hb ha hgt
    rw [hai, hbk] at this
    exact absurd h this.asymm

/-- the whole number above a quotient -/
theorem ceil_eq (P S : Int) (hS : 1 ≤ S) : -(-P / S) = P / S + if 0 < P % S then 1 else 0 := by
  rw [neg_div P S hS]
  have h1 := Int.emod_nonneg P (by omega : S ≠ 0)
  have h2 := Int.emod_lt_of_pos P (by omega : 0 < S)
  have h3 := Int.mul_ediv_add_emod P S
  generalize P / S = q at *
  generalize P % S = r at *
  subst h3
  by_cases hr : 0 < r
  · rw [if_pos hr]
    have : S * q + r + (S - 1) = (r - 1) + S * (q + 1) := by rw [Int.mul_add]; omega
    rw [this, Int.add_mul_ediv_left _ _ (by omega), Int.ediv_eq_zero_of_lt (by omega) (by omega)]
    omega
  · rw [if_neg hr]
    have hr0 : r = 0 := by omega
    subst hr0
    have : S * q + 0 + (S - 1) = (S - 1) + S * q := by omega
    rw [this, Int.add_mul_ediv_left _ _ (by omega), Int.ediv_eq_zero_of_lt (by omega) (by omega)]
    omega

theorem share_near (T : Int) (zs : List Int) (hT : 0 ≤ T) (hS : 1 ≤ sumL zs) (hz : ∀ z ∈ zs, 0 ≤ z) (i : Nat) (hi : i < zs.length) :
    T * zs.getD i 0 / sumL zs ≤ share T (sumL zs) zs i ∧ share T (sumL zs) zs i ≤ -(-(T * zs.getD i 0) / sumL zs) := by
  rw [ceil_eq _ _ hS]
  unfold share
  by_cases hg : (rank (fun i => (rems T (sumL zs) zs).getD i 0) zs.length i : Int) < missing T (sumL zs) zs
  · rw [if_pos hg, if_pos (gets_pos T zs hS i hg)]
    omega
  · rw [if_neg hg]
    split <;> omega

theorem ceil_bd (T : Int) (zs : List Int) (hT : 0 ≤ T) (hS : 1 ≤ sumL zs) (hz : ∀ z ∈ zs, 0 ≤ z) (i : Nat) (hi : i < zs.length) :
    0 ≤ -(-(T * zs.getD i 0) / sumL zs) ∧ -(-(T * zs.getD i 0) / sumL zs) ≤ T := by
  have hin : zs.getD i 0 ∈ zs := by rw [List.getD_eq_getElem?_getD, List.getElem?_eq_getElem hi]; exact List.getElem_mem _
  obtain ⟨q0, q1, _⟩ := part_bd T (zs.getD i 0) (sumL zs) hT (hz _ hin) (mem_le_sum hz _ hin) hS
  have hle : T * zs.getD i 0 ≤ T * sumL zs := Int.mul_le_mul_of_nonneg_left (mem_le_sum hz _ hin) hT
  have h3 := Int.mul_ediv_add_emod (T * zs.getD i 0) (sumL zs)
  rw [ceil_eq _ _ hS]
  refine ⟨by split <;> omega, ?_⟩
  split
  · next hr =>
    apply Int.lt_of_mul_lt_mul_left (a := sumL zs) _ (by omega)
    rw [Int.mul_comm (sumL zs) T]
    omega
  · omega

theorem share_pair (T : Int) (zs : List Int) (hT : 0 ≤ T) (hS : 1 ≤ sumL zs) (hz : ∀ z ∈ zs, 0 ≤ z) (i k : Nat) (hi : i < zs.length) (hk : k < zs.length) :
    (zs.getD k 0 < zs.getD i 0 → share T (sumL zs) zs k ≤ share T (sumL zs) zs i) ∧
    (zs.getD i 0 = zs.getD k 0 → share T (sumL zs) zs i - 1 ≤ share T (sumL zs) zs k ∧ (i < k → share T (sumL zs) zs k ≤ share T (sumL zs) zs i)) := by
  have mono : Ahead (fun i => (rems T (sumL zs) zs).getD i 0) i k → (if (rank (fun i => (rems T (sumL zs) zs).getD i 0) zs.length k : Int) < missing T (sumL zs) zs then (1 : Int) else 0) ≤ if (rank (fun i => (rems T (sumL zs) zs).getD i 0) zs.length i : Int) < missing T (sumL zs) zs then 1 else 0 := by
    intro h
    have := rank_lt hi hk h
    split
    · rw [if_pos (by omega)]; omega
    · split <;> omega
  have hr : ∀ j, (rems T (sumL zs) zs).getD j 0 = T * zs.getD j 0 % sumL zs := rems_at T (sumL zs) zs
  have hi3 := Int.mul_ediv_add_emod (T * zs.getD i 0) (sumL zs)
  have hk3 := Int.mul_ediv_add_emod (T * zs.getD k 0) (sumL zs)
  have hb1 : ∀ P : Prop, ∀ [Decidable P], 0 ≤ (if P then (1 : Int) else 0) ∧ (if P then (1 : Int) else 0) ≤ 1 := by
    intro P _; split <;> omega
  refine ⟨fun h => ?_, fun h => ⟨?_, fun hik => ?_⟩⟩
  · have hle : T * zs.getD k 0 ≤ T * zs.getD i 0 := Int.mul_le_mul_of_nonneg_left (by omega) hT
    have hq : T * zs.getD k 0 / sumL zs ≤ T * zs.getD i 0 / sumL zs := Int.ediv_le_ediv (by omega) hle
    unfold share
    by_cases he : T * zs.getD k 0 / sumL zs = T * zs.getD i 0 / sumL zs
    · rw [he]
      by_cases hT0 : T = 0
      · have hm : missing T (sumL zs) zs = 0 := by
          rcases missing_lt T zs hS with h0 | h1
          · exact h0
          · exfalso
            have hall : (rems T (sumL zs) zs).countP (fun r => decide (0 < r)) = 0 := by
              rw [List.countP_eq_zero]
              intro r hrr
              simp only [rems, List.mem_map] at hrr
              obtain ⟨z, _, rfl⟩ := hrr
              rw [hT0]; simp
            have := missing_nonneg T zs hS
            omega
        rw [hm, if_neg (by omega), if_neg (by omega)]
        omega
      · have hlt : T * zs.getD k 0 < T * zs.getD i 0 := Int.mul_lt_mul_of_pos_left h (by omega)
        have ha : Ahead (fun i => (rems T (sumL zs) zs).getD i 0) i k := by
          left
          show (rems T (sumL zs) zs).getD k 0 < (rems T (sumL zs) zs).getD i 0
          rw [hr i, hr k]
          rw [he] at hk3
          omega
        have := mono ha
        omega
    · have b1 := hb1 ((rank (fun i => (rems T (sumL zs) zs).getD i 0) zs.length k : Int) < missing T (sumL zs) zs)
      have b2 := hb1 ((rank (fun i => (rems T (sumL zs) zs).getD i 0) zs.length i : Int) < missing T (sumL zs) zs)
      omega
  · unfold share
    rw [h]
    have b1 := hb1 ((rank (fun i => (rems T (sumL zs) zs).getD i 0) zs.length k : Int) < missing T (sumL zs) zs)
    have b2 := hb1 ((rank (fun i => (rems T (sumL zs) zs).getD i 0) zs.length i : Int) < missing T (sumL zs) zs)
    omega
  · have ha : Ahead (fun i => (rems T (sumL zs) zs).getD i 0) i k := by
      right
      refine ⟨?_, hik⟩
      show (rems T (sumL zs) zs).getD k 0 = (rems T (sumL zs) zs).getD i 0
      rw [hr i, hr k, h]
    have := mono ha
    unfold share
    rw [h]
    omega

end Go.Proofs.YthocnlalahknjaaGreat
