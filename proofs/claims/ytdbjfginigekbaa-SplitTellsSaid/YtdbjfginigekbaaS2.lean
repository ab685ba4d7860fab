/- The contract of split's order: all places, in the order in which they get one more. -/
import Derived.Test.YtdbjfginigekbaaS1
import Derived.Test.YtdbjfginigekbaaSim12
namespace Go.Proofs.Ytdbjfginigekbaa
open Go.RowKit
set_option linter.unusedVariables false

/-- the first is ahead of the second: of it more is left over, or as much, and it stands ahead -/
def Ahead (ls : Nat → Int) (a b : Nat) : Prop := ls b < ls a ∨ (ls b = ls a ∧ a < b)
theorem Ahead.total {ls : Nat → Int} {a b : Nat} (h : ¬ Ahead ls b a) (hne : a ≠ b) : Ahead ls a b := by unfold Ahead at *; omega

theorem below_sort {α : Type} [Inhabited α] (enc : α → Value) (W : World) (B g off N : Nat) (d : Array α) (os : Array Obj) (hg : B ≤ g) (hB : B ≤ W.heap.size) : Below B W (sortWorld enc W g off N d os) := by
  refine ⟨rfl, rfl, rfl, ?_, fun k hk => ?_⟩
  · simp [sortWorld, Sort.grow, Sort.putRow, Sort.mapBlock, Sort.ahead]
  · show ((Sort.putRow enc (Sort.ahead W N) g off d).heap ++ os)[k]? = W.heap[k]?
    rw [Array.getElem?_append_left (by simp [Sort.putRow, Sort.mapBlock, Sort.ahead]; omega)]
    simp only [Sort.putRow, Sort.mapBlock, Sort.ahead, Array.getElem?_modify]
    rw [if_neg (by omega)]

/-- all places, k of them laid -/
def laid (n k : Nat) : List Int := (List.range n).map fun i => if i < k then (i : Int) else 0
theorem laid_zero (n : Nat) : laid n 0 = List.replicate n 0 := by
  apply List.ext_getElem
  · simp [laid]
  · intro i h1 h2
    simp [laid]
theorem laid_length (n k : Nat) : (laid n k).length = n := by simp [laid]
theorem laid_set (n k : Nat) (h : k < n) : (laid n k).set k (k : Int) = laid n (k + 1) := by
  apply List.ext_getElem
  · simp [laid]
  · intro i h1 h2
    rw [List.getElem_set]
    simp only [laid, List.getElem_map, List.getElem_range]
    by_cases hik : k = i
    · subst hik; simp
    · rw [if_neg hik]
      by_cases h3 : i < k
      · rw [if_pos h3, if_pos (by omega)]
      · rw [if_neg h3, if_neg (by omega)]
theorem laid_at (n i : Nat) (h : i < n) : (laid n n).getD i 0 = (i : Int) := by
  rw [List.getD_eq_getElem?_getD, List.getElem?_eq_getElem (by rw [laid_length]; exact h)]
  simp [laid, h]

/-- every place -/
def places (m : Nat) : Array (Fin (m + 1)) := Array.ofFn fun i : Fin (m + 1) => i
theorem places_size (m : Nat) : (places m).size = m + 1 := by simp [places]
theorem places_at (m j : Nat) (h : j < m + 1) : ((places m)[j]! : Fin (m + 1)) = ⟨j, h⟩ := by
  rw [getElem!_pos (places m) j (by rw [places_size]; exact h)]
  simp [places]
theorem places_vals (m : Nat) : (places m).toList.map (fun a : Fin (m + 1) => (a : Nat)) = List.range (m + 1) := by
  apply List.ext_getElem
  · simp [places]
  · intro i h1 h2
    simp only [places, Array.toList_ofFn, List.getElem_map, List.getElem_ofFn, List.getElem_range]

/-- what order leaves behind -/
structure Ordered (ls : Nat → Int) (n g : Nat) (w' : World) (L : List Nat) : Prop where
  perm : L.Perm (List.range n)
  sorted : L.Pairwise (Ahead ls)
  cells : ∀ i, i < n → w'.cell? ⟨g, i, none⟩ = some (.int .i64 ((L.getD i 0 : Nat) : Int))
  lt : g < w'.heap.size

theorem ordered_of_sorts {ls : Nat → Int} {m g : Nat} {W w' : World} {e : Ending} (hS : Sorts ls m g 0 (places m) W e w') (hH : Sort.Holds (encP m) W g 0 (places m)) (hg : g < W.heap.size) : ∃ L, Ordered ls (m + 1) g w' L := by
  obtain ⟨_, d', N, os, hp, hs, rfl⟩ := hS
  rw [places_size] at hp hs
  obtain ⟨hsz, _, hperm⟩ := hp
  rw [places_size] at hsz
  have e1 : d'.extract 0 (m + 1) = d' := by
    have := Array.extract_size (xs := d'); rwa [hsz] at this
  have e2 : (places m).extract 0 (m + 1) = places m := by
    have := Array.extract_size (xs := places m); rwa [places_size] at this
  rw [e1, e2] at hperm
  have hperm2 : (d'.toList.map fun a : Fin (m + 1) => (a : Nat)).Perm (List.range (m + 1)) := by rw [← places_vals]; exact hperm.map _
  have hnd : (d'.toList.map fun a : Fin (m + 1) => (a : Nat)).Nodup := hperm2.nodup_iff.2 List.nodup_range
  refine ⟨d'.toList.map fun a : Fin (m + 1) => (a : Nat), hperm2, ?_, fun i hi => ?_, lt_sortWorld _ _ _ _ _ _ _ hg⟩
  · rw [List.pairwise_iff_getElem]
    intro i j hi hj hij
    have hi' : i < d'.size := by simpa using hi
    have hj' : j < d'.size := by simpa using hj
    have h := hs i j (Nat.zero_le _) hij (by omega)
    rw [getElem!_pos d' i hi', getElem!_pos d' j hj', ltOf_cf_false] at h
    have hne : (d'.toList.map fun a : Fin (m + 1) => (a : Nat))[i] ≠ (d'.toList.map fun a : Fin (m + 1) => (a : Nat))[j] := List.pairwise_iff_getElem.1 hnd i j hi hj hij
    simp only [List.getElem_map, Array.getElem_toList] at hne ⊢
    exact Ahead.total h hne
  · have h := (holds_sortWorld (encP m) W g 0 N (places m) d' os hg hH (by rw [hsz, places_size]) i (by omega)).1
    rw [Nat.zero_add] at h
    rw [h, getElem!_pos d' i (by omega)]
    rw [List.getD_eq_getElem?_getD, List.getElem?_map, List.getElem?_eq_getElem (by simpa using (by omega : i < d'.size))]
    rfl

set_option maxHeartbeats 2000000 in
set_option maxRecDepth 100000 in
theorem order_any (rb m : Nat) (rs : List Int) (w : World) (hm : m + 1 ≤ 64) (hl : rs.length = m + 1) (hr : IRow 2 w rb rs) :
    Calls Try.prog 20 #[.slice (some ⟨rb, 0, none⟩) (m + 1) (m + 1)] w fun e w' => ∃ g L, e = .returned (.slice (some ⟨g, 0, none⟩) (m + 1) (m + 1)) ∧ w.heap.size ≤ g ∧ Ordered (fun i => rs.getD i 0) (m + 1) g w' L ∧ Below w.heap.size w w' := by
  have hmk := make41 (m + 1) (by omega)
  have hrb := hr.lt
  replace hl := Lib.hid hl
  replace hr := Lib.hid hr
  generalize hn : m + 1 = n at *
  replace hn := Lib.hid hn
  have hn0 : 1 ≤ n := by have := hn.out; omega
  go_enter Try.func20, Try.ntmps20
  go_wp2_with fail
  go_loopw [10] (fun i wr => ∃ k : Nat, k ≤ n ∧ i = .int .i64 k ∧ IRow 3 wr w.heap.size (laid n k) ∧ Below w.heap.size w wr) (fun i _ => n - (intOf i).toNat)
  case atStart => exact ⟨0, by omega, rfl, by rw [laid_zero]; exact IRow.made 3 w n, (Below.refl _ _).alloc (Nat.le_refl _) _⟩
  case round =>
    obtain ⟨k, hk, rfl, hrow, hbel⟩ := hrel
    by_cases hlt : k < n
    · have c0 := hrow.cell (i := k) (by rw [laid_length]; exact hlt)
      have f0 := hrow.free (i := k)
      replace hrow := Lib.hid hrow
      replace hbel := Lib.hid hbel
      have hkz : (k : Int) < (n : Int) := by omega
      go_wp2_with fail
      go_roundw
      case rel =>
        refine ⟨k + 1, by omega, by go_num, ?_, hbel.out.setCell (Nat.le_refl _) _⟩
        rw [← laid_set n k hlt]
        exact hrow.out.set k
      case measure => simp [intOf]; omega
    · have hkn : k = n := by omega
      subst hkn
      have hrw := hr.out.kept hbel
      have hgs := hrow.lt
      have hH : Sort.Holds (encP m) wr w.heap.size 0 (places m) := fun j hj => by
        rw [places_size, hn.out] at hj
        rw [Nat.zero_add]
        refine ⟨?_, hrow.free⟩
        rw [hrow.cell (by rw [laid_length]; exact hj), laid_at k j hj, places_at m j (by rw [hn.out]; exact hj)]
        rfl
      have hcon := sort_places (fun i => rs.getD i 0) m rb 0 k k w.heap.size 0 k (places m) wr hn.out.symm (by omega) (by rw [places_size, hn.out]; omega)
        (fun i hi => by rw [Nat.zero_add]; exact hrw.cell (by rw [hl.out]; exact hi)) hrw.lt (by omega) hH hgs
      rw [places_size, hn.out] at hcon
      replace hrow := Lib.hid hrow
      replace hbel := Lib.hid hbel
      replace hH := Lib.hid hH
      clear hrw
      go_wp2_with (first | (go_at_call 37; refine hcon.mono ?_; rintro e w2 hS; have he := hS.1; subst he; replace hS := Lib.hid hS))
      go_ret
      obtain ⟨L, hL⟩ := ordered_of_sorts hS.out hH.out hgs
      rw [hn.out] at hL
      refine ⟨w.heap.size, L, rfl, Nat.le_refl _, hL, ?_⟩
      obtain ⟨_, d', N, os, _, _, rfl⟩ := hS.out
      exact hbel.out.trans (below_sort _ _ _ _ _ _ _ _ (Nat.le_refl _) (Nat.le_of_lt hgs))
end Go.Proofs.Ytdbjfginigekbaa
