/- Entries sorted by the order in which they were matched: the library's sort at them; the contract of All. -/
import Derived.Test.YtflbggehgjllcaaDoorDJ
import Derived.Test.YtflbggehgjllcaaDoorShelf
namespace Go.Proofs.YtflbggehgjllcaaDoor
open Go.RowKit Go.Maps Go.Sort
set_option linter.unusedVariables false

/-- entries' cells from a place on -/
def ECells (w : World) (g : Nat) (l : List En) : Prop := ∀ i (h : i < l.length) j u, j < 10 → l[i].cs[j]? = some u → w.cell? ⟨g, i * 10 + j, none⟩ = some u
theorem orow_ecells {w : World} {g cap : Nat} {l : List En} (h : w.ownsRow 0 65 10 (.slice (some ⟨g, 0, none⟩) l.length cap) l.length (cellsE l)) : ECells w g l :=
  fun i hi j u hj hu => orow_cell h rfl ((cellsE_at hi j hj).trans hu)
theorem cs_get (x : En) (j : Nat) (hj : j < 10) : x.cs[j]? = some x.cs[j]! := by
  rw [List.getElem?_eq_getElem (by rw [En.cs_len]; exact hj), getElem!_pos x.cs j (by rw [En.cs_len]; exact hj)]
theorem orow_holds {w : World} {g cap : Nat} {l : List En} (h : w.ownsRow 0 65 10 (.slice (some ⟨g, 0, none⟩) l.length cap) l.length (cellsE l)) : HoldsK En.cs 10 w g 0 l.toArray := by
  intro j hj
  rw [size_flatK] at hj
  have hj' : j < l.length * 10 := by simpa using hj
  have hi : j / 10 < l.length := by omega
  refine ⟨?_, orow_free h rfl _⟩
  have e1 : l.toArray[j / 10]! = l[j / 10] := by rw [getElem!_pos l.toArray (j / 10) (by simpa using hi)]; simp
  rw [get_flatK _ _ _ _ hj, e1, Nat.zero_add]
  have := orow_ecells h (j / 10) hi (j % 10) _ (by omega) (cs_get l[j / 10] (j % 10) (by omega))
  rw [show j / 10 * 10 + j % 10 = j by omega] at this
  exact this
theorem holds_ecells {w : World} {g : Nat} {d : Array En} (h : HoldsK En.cs 10 w g 0 d) : ECells w g d.toList := by
  intro i hi j u hj hu
  have hi' : i < d.size := by simpa using hi
  have ht : i * 10 + j < d.size * 10 := by omega
  have := (h (i * 10 + j) (by rw [size_flatK]; exact ht)).1
  rw [get_flatK _ _ _ _ ht, Nat.zero_add, show (i * 10 + j) / 10 = i by omega, show (i * 10 + j) % 10 = j by omega, getElem!_pos d i hi'] at this
  rw [this]
  have e : d.toList[i] = d[i] := by simp
  rw [e, cs_get _ _ hj] at hu
  exact hu
theorem below_sortK (W : World) (B g off N : Nat) (d : Array En) (os : Array Obj) (hg : B ≤ g) (hB : B ≤ W.heap.size) : Below B W (sortWorldK En.cs 10 W g off N d os) := by
  refine ⟨rfl, rfl, rfl, ?_, fun k hk => ?_⟩
  · simp [sortWorldK, Sort.grow, putRowK, Sort.putRow, Sort.mapBlock, Sort.ahead]
  · show ((putRowK En.cs 10 (Sort.ahead W N) g off d).heap ++ os)[k]? = W.heap[k]?
    rw [Array.getElem?_append_left (by simp [putRowK, Sort.putRow, Sort.mapBlock, Sort.ahead]; omega)]
    simp only [putRowK, Sort.putRow, Sort.mapBlock, Sort.ahead, Array.getElem?_modify]
    rw [if_neg (by omega)]
theorem ltNth (x y : En) : ltOf (fun x y : En => Lib.compareInt x.nth y.nth) x y = decide (x.nth < y.nth) := by
  unfold ltOf Lib.compareInt
  by_cases h1 : x.nth < y.nth
  · simp [h1]
  · by_cases h2 : y.nth < x.nth <;> simp [h1, h2]
theorem swoNth : SWO (ltOf fun x y : En => Lib.compareInt x.nth y.nth) where
  irrefl x := by rw [ltNth]; simp
  trans x y z h1 h2 := by rw [ltNth] at *; simp at *; omega
  ntrans x y z h1 h2 := by rw [ltNth] at *; simp at *; omega
set_option maxHeartbeats 1000000 in
theorem closure35 (x y : En) (W : World) : Calls Tryd.prog 35 #[.agg x.cs.toArray, .agg y.cs.toArray] W fun e w' => e = .returned (.int .i64 (Lib.compareInt x.nth y.nth)) ∧ ∃ q os', w' = grow (W.drewN q) os' := by
  have hcon := fun W' => Tryd.cmp_Compare_int x.nth y.nth W'
  generalize Lib.compareInt x.nth y.nth = r at hcon ⊢
  unfold En.cs
  go_enter Tryd.func35, Tryd.ntmps35
  go_wp2_with (go_at_call 36; refine (hcon _).mono ?_; rintro e w' ⟨rfl, rfl⟩)
  go_ret
  exact ⟨rfl, 0, _, by rw [alloc_eq_grow, alloc_eq_grow, grow_grow]; rfl⟩
theorem sorted_lowest {l : List En} (hnd : (l.map (·.nth)).Nodup) {d : Array En} (hp : PermIn 0 l.toArray.size l.toArray d) (hs : SortedIn (ltOf fun x y : En => Lib.compareInt x.nth y.nth) 0 l.toArray.size d) : d.toList = lowest l := by
  obtain ⟨hsz, _, hperm⟩ := hp
  have hsz' : d.size = l.length := by simpa using hsz
  have e1 : d.extract 0 l.toArray.size = d := by
    have := Array.extract_size (xs := d); rwa [hsz] at this
  have e2 : l.toArray.extract 0 l.toArray.size = l.toArray := Array.extract_size
  rw [e1, e2] at hperm
  have hperm' : d.toList.Perm l := by simpa using hperm
  unfold lowest
  have hinj : ∀ a b : En, a ∈ l → b ∈ l → a.nth = b.nth → a = b := fun a b ha hb e => by
    obtain ⟨i, hi, rfl⟩ := List.mem_iff_getElem.1 ha
    obtain ⟨j, hj, rfl⟩ := List.mem_iff_getElem.1 hb
    have hpw := List.pairwise_iff_getElem.1 hnd
    rcases Nat.lt_trichotomy i j with h | h | h
    · exact absurd (by rw [List.getElem_map, List.getElem_map]; exact e) (hpw i j (by simpa using hi) (by simpa using hj) h)
    · subst h; rfl
    · exact absurd (by rw [List.getElem_map, List.getElem_map]; exact e.symm) (hpw j i (by simpa using hj) (by simpa using hi) h)
  refine List.Perm.eq_of_pairwise (le := fun a b : En => a.nth ≤ b.nth) (fun a b ha hb h1 h2 => ?_) ?_ ?_ (hperm'.trans (List.mergeSort_perm l _).symm)
  · exact hinj a b (hperm'.mem_iff.1 ha) ((List.mergeSort_perm l _).mem_iff.1 hb) (by omega)
  · rw [List.pairwise_iff_getElem]
    intro i j hi hj hij
    have hi' : i < d.size := by simpa using hi
    have hj' : j < d.size := by simpa using hj
    have h := hs i j (Nat.zero_le _) hij (by simpa using (by omega : j < l.length))
    rw [getElem!_pos d i hi', getElem!_pos d j hj', ltNth] at h
    simp at h ⊢
    exact h
  · have := List.pairwise_mergeSort (le := fun x y : En => decide (x.nth ≤ y.nth)) (fun a b c h1 h2 => by simp at *; omega) (fun a b => by simp; omega) l
    exact this.imp fun h => by simpa using h
theorem sortE_any (w : World) (g cap : Nat) (l : List En) (h : w.ownsRow 0 65 10 (.slice (some ⟨g, 0, none⟩) l.length cap) l.length (cellsE l)) (B : Nat) (hg : B ≤ g) (hB : B ≤ w.heap.size) (hnd : (l.map (·.nth)).Nodup) (hlen : l.length ≤ 1000) :
    Calls Tryd.prog 34 #[.slice (some ⟨g, 0, none⟩) l.length cap, .func (.func 35) #[] #[]] w fun e w' => e = .returned (.tuple #[]) ∧ ECells w' g (lowest l) ∧ g < w'.heap.size ∧ Below B w w' := by
  have eg : ∀ args w, (callFunc 35 args).run Tryd.prog w = .ok (.enter 35 args) w := enters_of Tryd.func35 (by kernel_rfl) rfl
  have hgl := (World.ownsRow.lt h g rfl).2
  have hcon := AnyQ.slices_SortFunc Tryd.laysF34 10 Tryd.isAgg65 Tryd.sizeOf65 En.cs En.cs_len (fun x v hv => En.cs_one x v hv) (fun x y => Lib.compareInt x.nth y.nth) swoNth 35 #[] g 0 cap l.toArray w eg (fun _ _ _ _ x y => closure35 x y _) (orow_holds h) hgl (by simp; omega)
  have hsz : l.toArray.size = l.length := by simp
  rw [hsz] at hcon
  refine Calls.mono hcon ?_
  rintro e w' ⟨he, d', n, os, hp, hs, rfl⟩
  have hl := sorted_lowest hnd (by rw [hsz]; exact hp) (by rw [hsz]; exact hs)
  refine ⟨he, ?_, lt_sortWorldK _ _ _ _ _ _ _ _ hgl, below_sortK _ _ _ _ _ _ _ hg hB⟩
  rw [← hl]
  exact holds_ecells (holdsK_sortWorldK _ _ _ _ _ _ _ _ _ hgl (orow_holds h) (by have := hp.1; simpa using this))
end Go.Proofs.YtflbggehgjllcaaDoor
