/- Entries sorted by the order in which they were matched: the library's sort at them; the contract of All.
  The library's sort of no entries.
  The contract of All. -/
import Derived.Test.YthocnlalahknjaaGreatQDb
import Derived.Test.YthocnlalahknjaaGreatShelf
import Derived.Test.YthocnlalahknjaaGreatShelfS
import Derived.Shelf.SlSortCmp.NoneTotal
namespace Go.Proofs.YthocnlalahknjaaGreat.Dd
open Go.RowKit Go.Maps Go.Sort
set_option linter.unusedVariables false

/-- entries' cells from a place on -/
def ECells (w : World) (g : Nat) (l : List En) : Prop := ∀ i (h : i < l.length) j u, j < 10 → l[i].cs[j]? = some u → w.cell? ⟨g, i * 10 + j, none⟩ = some u
theorem orow_ecells {w : World} {g cap : Nat} {l : List En} (h : w.ownsRow 0 110 10 (.slice (some ⟨g, 0, none⟩) l.length cap) l.length (cellsE l)) : ECells w g l :=
  fun i hi j u hj hu => orow_cell h rfl ((cellsE_at hi j hj).trans hu)
theorem cs_get (x : En) (j : Nat) (hj : j < 10) : x.cs[j]? = some x.cs[j]! := by
  rw [List.getElem?_eq_getElem (by rw [En.cs_len]; exact hj), getElem!_pos x.cs j (by rw [En.cs_len]; exact hj)]
theorem orow_holds {w : World} {g cap : Nat} {l : List En} (h : w.ownsRow 0 110 10 (.slice (some ⟨g, 0, none⟩) l.length cap) l.length (cellsE l)) : HoldsK En.cs 10 w g 0 l.toArray := by
  intro j hj
  rw [size_flatK] at hj
  have hj' : j < l.length * 10 := by simpa using hj
  have hi : j / 10 < l.length := by omega
  refine ⟨?_, orow_free h rfl _⟩
  have e1 : l.toArray[j / 10]! = l[j / 10] := by rw [getElem!_pos l.toArray (j / 10) (by simpa using hi)]; simp
  rw [get_flatK _ _ _ _ hj, e1, Nat.zero_add]
  have := orow_ecells h (j / 10) hi (j % 10) _ (by omega) (cs_get l[j / 10] (j % 10) (by omega))
  rw [show j / 10 * 10 + j % 10 = j by omega] at this
  exact this
theorem holds_ecells {w : World} {g : Nat} {d : Array En} (h : HoldsK En.cs 10 w g 0 d) : ECells w g d.toList := by
  intro i hi j u hj hu
  have hi' : i < d.size := by simpa using hi
  have ht : i * 10 + j < d.size * 10 := by omega
  have := (h (i * 10 + j) (by rw [size_flatK]; exact ht)).1
  rw [get_flatK _ _ _ _ ht, Nat.zero_add, show (i * 10 + j) / 10 = i by omega, show (i * 10 + j) % 10 = j by omega, getElem!_pos d i hi'] at this
  rw [this]
  have e : d.toList[i] = d[i] := by simp
  rw [e, cs_get _ _ hj] at hu
  exact hu
theorem below_sortK (W : World) (B g off N : Nat) (d : Array En) (os : Array Obj) (hg : B ≤ g) (hB : B ≤ W.heap.size) : Below B W (sortWorldK En.cs 10 W g off N d os) := by
  refine ⟨rfl, rfl, rfl, ?_, fun k hk => ?_⟩
  · simp [sortWorldK, Sort.grow, putRowK, Sort.putRow, Sort.mapBlock, Sort.ahead]
  · show ((putRowK En.cs 10 (Sort.ahead W N) g off d).heap ++ os)[k]? = W.heap[k]?
    rw [Array.getElem?_append_left (by simp [putRowK, Sort.putRow, Sort.mapBlock, Sort.ahead]; omega)]
    simp only [putRowK, Sort.putRow, Sort.mapBlock, Sort.ahead, Array.getElem?_modify]
    rw [if_neg (by omega)]
theorem ltNth (x y : En) : ltOf (fun x y : En => Lib.compareInt x.nth y.nth) x y = decide (x.nth < y.nth) := by
  unfold ltOf Lib.compareInt
  by_cases h1 : x.nth < y.nth
  · simp [h1]
  · by_cases h2 : y.nth < x.nth <;> simp [h1, h2]
theorem swoNth : SWO (ltOf fun x y : En => Lib.compareInt x.nth y.nth) where
  irrefl x := by rw [ltNth]; simp
  trans x y z h1 h2 := by rw [ltNth] at *; simp at *; omega
  ntrans x y z h1 h2 := by rw [ltNth] at *; simp at *; omega
set_option maxHeartbeats 1000000 in
theorem closure35 (x y : En) (W : World) : Calls Tryz.prog 54 #[.agg x.cs.toArray, .agg y.cs.toArray] W fun e w' => e = .returned (.int .i64 (Lib.compareInt x.nth y.nth)) ∧ ∃ q os', w' = grow (W.drewN q) os' := by
  have hcon := fun W' => Tryz.cmp_Compare_int x.nth y.nth W'
  generalize Lib.compareInt x.nth y.nth = r at hcon ⊢
  unfold En.cs
  go_enter Tryz.func54, Tryz.ntmps54
  go_wp2_with (go_at_call 55; refine (hcon _).mono ?_; rintro e w' ⟨rfl, rfl⟩)
  go_ret
  exact ⟨rfl, 0, _, by rw [alloc_eq_grow, alloc_eq_grow, grow_grow]; rfl⟩
theorem sorted_lowest {l : List En} (hnd : (l.map (·.nth)).Nodup) {d : Array En} (hp : PermIn 0 l.toArray.size l.toArray d) (hs : SortedIn (ltOf fun x y : En => Lib.compareInt x.nth y.nth) 0 l.toArray.size d) : d.toList = lowest l := by
  obtain ⟨hsz, _, hperm⟩ := hp
  have hsz' : d.size = l.length := by simpa using hsz
  have e1 : d.extract 0 l.toArray.size = d := by
    have := Array.extract_size (xs := d); rwa [hsz] at this
  have e2 : l.toArray.extract 0 l.toArray.size = l.toArray := Array.extract_size
  rw [e1, e2] at hperm
  have hperm' : d.toList.Perm l := by simpa using hperm
  unfold lowest
  have hinj : ∀ a b : En, a ∈ l → b ∈ l → a.nth = b.nth → a = b := fun a b ha hb e => by
    obtain ⟨i, hi, rfl⟩ := List.mem_iff_getElem.1 ha
    obtain ⟨j, hj, rfl⟩ := List.mem_iff_getElem.1 hb
    have hpw := List.pairwise_iff_getElem.1 hnd
    rcases Nat.lt_trichotomy i j with h | h | h
    · exact absurd (by rw [List.getElem_map, List.getElem_map]; exact e) (hpw i j (by simpa using hi) (by simpa using hj) h)
    · subst h; rfl
    · exact absurd (by rw [List.getElem_map, List.getElem_map]; exact e.symm) (hpw j i (by simpa using hj) (by simpa using hi) h)
  refine List.Perm.eq_of_pairwise (le := fun a b : En => a.nth ≤ b.nth) (fun a b ha hb h1 h2 => ?_) ?_ ?_ (hperm'.trans (List.mergeSort_perm l _).symm)
  · exact hinj a b (hperm'.mem_iff.1 ha) ((List.mergeSort_perm l _).mem_iff.1 hb) (by omega)
  · rw [List.pairwise_iff_getElem]
    intro i j hi hj hij
    have hi' : i < d.size := by simpa using hi
    have hj' : j < d.size := by simpa using hj
    have h := hs i j (Nat.zero_le _) hij (by simpa using (by omega : j < l.length))
    rw [getElem!_pos d i hi', getElem!_pos d j hj', ltNth] at h
    simp at h ⊢
    exact h
  · have := List.pairwise_mergeSort (le := fun x y : En => decide (x.nth ≤ y.nth)) (fun a b c h1 h2 => by simp at *; omega) (fun a b => by simp; omega) l
    exact this.imp fun h => by simpa using h
theorem sortE_any (w : World) (g cap : Nat) (l : List En) (h : w.ownsRow 0 110 10 (.slice (some ⟨g, 0, none⟩) l.length cap) l.length (cellsE l)) (B : Nat) (hg : B ≤ g) (hB : B ≤ w.heap.size) (hnd : (l.map (·.nth)).Nodup) (hlen : l.length ≤ 1000) :
    Calls Tryz.prog 53 #[.slice (some ⟨g, 0, none⟩) l.length cap, .func (.func 54) #[] #[]] w fun e w' => e = .returned (.tuple #[]) ∧ ECells w' g (lowest l) ∧ g < w'.heap.size ∧ Below B w w' := by
  have eg : ∀ args w, (callFunc 54 args).run Tryz.prog w = .ok (.enter 54 args) w := enters_of Tryz.func54 (by kernel_rfl) rfl
  have hgl := (World.ownsRow.lt h g rfl).2
  have hcon := AnyQ.slices_SortFunc Tryz.laysF34 10 Tryz.isAgg110 Tryz.sizeOf110 En.cs En.cs_len (fun x v hv => En.cs_one x v hv) (fun x y => Lib.compareInt x.nth y.nth) swoNth 54 #[] g 0 cap l.toArray w eg (fun _ _ _ _ x y => closure35 x y _) (orow_holds h) hgl (by simp; omega)
  have hsz : l.toArray.size = l.length := by simp
  rw [hsz] at hcon
  refine Calls.mono hcon ?_
  rintro e w' ⟨he, d', n, os, hp, hs, rfl⟩
  have hl := sorted_lowest hnd (by rw [hsz]; exact hp) (by rw [hsz]; exact hs)
  refine ⟨he, ?_, lt_sortWorldK _ _ _ _ _ _ _ _ hgl, below_sortK _ _ _ _ _ _ _ hg hB⟩
  rw [← hl]
  exact holds_ecells (holdsK_sortWorldK _ _ _ _ _ _ _ _ _ hgl (orow_holds h) (by have := hp.1; simpa using this))
end Go.Proofs.YthocnlalahknjaaGreat.Dd
namespace Go.Proofs.YthocnlalahknjaaGreat.Dd
theorem sortE_nil (w : World) (p : Option Addr) (cap : Nat) : Calls Tryz.prog 53 #[.slice p 0 cap, .func (.func 54) #[] #[]] w fun e w' => e = .returned (.tuple #[]) ∧ w' = w :=
  AnyF.slices_SortFunc_none Tryz.laysF34 p cap _ w
end Go.Proofs.YthocnlalahknjaaGreat.Dd
namespace Go.Proofs.YthocnlalahknjaaGreat.Dd
open Go.RowKit Go.Maps
set_option linter.unusedVariables false

def ofSt (l : List En) (st : Int) : List En := l.filter fun e => decide (e.st = st)
theorem ofSt_yes {l : List En} {st : Int} {k : Nat} (h : k < l.length) (hh : l[k].st = st) : ofSt (l.take (k + 1)) st = ofSt (l.take k) st ++ [l[k]] := by
  unfold ofSt; rw [List.take_succ_eq_append_getElem h, List.filter_append]; simp [hh]
theorem ofSt_no {l : List En} {st : Int} {k : Nat} (h : k < l.length) (hh : ¬ l[k].st = st) : ofSt (l.take (k + 1)) st = ofSt (l.take k) st := by
  unfold ofSt; rw [List.take_succ_eq_append_getElem h, List.filter_append]; simp [hh]
theorem ofSt_le (l : List En) (st : Int) (k : Nat) : (ofSt (l.take k) st).length ≤ l.length := by
  unfold ofSt; have := List.length_filter_le (fun e : En => decide (e.st = st)) (l.take k); have : (l.take k).length ≤ l.length := by rw [List.length_take]; omega
  omega
/-- a row of entries, new since w -/
structure ER (w wr : World) (u : Value) (l : List En) : Prop where
  row : wr.ownsRow 0 110 10 u l.length (cellsE l)
  own : ∀ g, u.ownBlock = some g → w.heap.size ≤ g
  bl : Below w.heap.size w wr
/-- a row of ints, new since w -/
structure ZR (w wr : World) (u : Value) (l : List Int) : Prop where
  row : IRow wr u l
  own : ∀ g, u.ownBlock = some g → w.heap.size ≤ g
  bl : Below w.heap.size w wr
theorem below_grown {B : Nat} {w w1 w' : World} {u : Value} (hb : Below B w w1) (hg : w1.grownBy w' u.ownBlock) (ho : ∀ g, u.ownBlock = some g → B ≤ g) (hB : B ≤ w.heap.size) : Below B w w' :=
  ⟨hg.os.trans hb.os, hg.tape.trans hb.tape, hg.output.trans hb.output, Nat.le_trans hb.size hg.size, fun j hj => (hg.block j (by have := hb.size; omega) (fun e => by have := ho j e.symm; omega)).trans (hb.block j hj)⟩
theorem boxE {W : World} {g : Nat} (x : En) (h : W.heap[g]? = some (.cells x.cs.toArray 110 (0, 0))) : ∀ (j : Nat) (u : Value), x.cs[j]? = some u → W.cell? ((⟨g, 0, none⟩ : Addr).add j) = some u := fun j u hu => by
  have e : (⟨g, 0, none⟩ : Addr).add j = ⟨g, j, none⟩ := by unfold Addr.add; split <;> simp_all
  rw [e]; exact obj_cell h (by simpa using hu)
theorem ECells.below {w w' : World} {g : Nat} {l : List En} (h : ECells w g l) (hb : Below w.heap.size w w') (hg : g < w.heap.size) : ECells w' g l := fun i hi j u hj hu => by
  rw [hb.cell (p := ⟨g, i * 10 + j, none⟩) hg]; exact h i hi j u hj hu
def idsK (l : List En) (k : Nat) : List Int := (l.take k).map (·.d.id)
theorem idsK_succ {l : List En} {k : Nat} (h : k < l.length) : idsK l (k + 1) = idsK l k ++ [l[k].d.id] := by unfold idsK; rw [List.take_succ_eq_append_getElem h, List.map_append]; rfl
theorem idsK_le (l : List En) (k : Nat) : (idsK l k).length ≤ l.length := by unfold idsK; rw [List.length_map, List.length_take]; omega
theorem idsK_all (l : List En) : idsK l l.length = l.map (·.d.id) := by unfold idsK; rw [List.take_length]
theorem lowest_len (l : List En) : (lowest l).length = l.length := by unfold lowest; exact List.length_mergeSort l
section
variable {P : Nat → Prop} {w : World} {gb : Nat} {b : Bk} {v : Value} {mb : Nat} {D : DataW Value}
set_option maxHeartbeats 4000000 in
set_option maxRecDepth 100000 in
theorem all_any (h : PB P w gb b) (st : Int) (hlen : b.l.length ≤ 1000) (hnd : st = 2 → ((ofSt b.l st).map (·.nth)).Nodup) :
    Calls Tryz.prog 25 #[.pointer (some ⟨gb, 0, none⟩), .int .i64 st] w fun e w' => ∃ u, e = .returned u ∧ ZR w w' u (b.all st) := by
  obtain ⟨v, mb, D, h⟩ := h
  have h0 : ER w w (.slice none 0 0) (ofSt (b.l.take 0) st) := ⟨World.ownsRow_nil _ _ _ _, (fun g hg => by simp [Value.ownBlock] at hg), Below.refl _ _⟩
  have c2 : w.cell? ⟨gb, 2, none⟩ = some v := obj_cell h.obj rfl
  obtain ⟨p, cap, rfl, -, -, hps⟩ := orow_shape h.row
  have hgp : ∀ k, k < b.l.length → ∃ g, p = some ⟨g, 0, none⟩ := fun k hk => by
    obtain ⟨g, c1, cur, e1, _⟩ := orow_some h.row (by omega)
    injection e1 with e1 _ _
    exact ⟨g, e1⟩
  have hres : b.all st = (if st = 2 then lowest (ofSt b.l st) else ofSt b.l st).map (·.d.id) := rfl
  obtain ⟨R, hR⟩ : ∃ R, R = b.all st := ⟨_, rfl⟩
  rw [← hR] at hres ⊢
  clear hR hps
  replace hres := Lib.hid hres
  obtain ⟨n, hn⟩ : ∃ n, n = b.l.length := ⟨_, rfl⟩
  have hn1 : n ≤ 1000 := by omega
  rw [← hn] at c2 hgp
  replace h := Lib.hid h
  replace h0 := Lib.hid h0
  replace hn := Lib.hid hn
  replace hgp := Lib.hid hgp
  replace hnd := Lib.hid hnd
  go_enter Tryz.func25, Tryz.ntmps25
  go_wp2_with fail
  go_loopw [5, 16] (fun u i wr => ∃ k : Nat, k ≤ n ∧ i = .int .i64 (k : Int) ∧ Hid (ER w wr u (ofSt (b.l.take k) st))) (fun _ i _ => n - (intOf i).toNat)
  case atStart => exact ⟨0, by omega, rfl, h0⟩
  case round =>
    obtain ⟨k, hk, rfl, hS⟩ := hrel
    by_cases hkn : k < n
    · obtain ⟨g, rfl⟩ := hgp.out k hkn
      have hkb : k < b.l.length := by have := hn.out; omega
      have hpb := h.out.below hS.out.bl
      obtain ⟨e0, e1, e2, e3, e4, e5, e6, e7, e8, e9⟩ := hpb.entry (i := k) hkb rfl
      have hgl : g < wr.heap.size := (World.ownsRow.lt hpb.row g rfl).2
      have hle : Hid ((ofSt (b.l.take k) st).length ≤ 1000) := Lib.hid (by have := ofSt_le b.l st k; omega)
      have hbox : ∀ o, ER w (wr.alloc o) u5 (ofSt (b.l.take k) st) := fun o => ⟨orow_kept hS.out.row fun g' hg' => Below.heap_alloc _ _ _ (World.ownsRow.lt hS.out.row g' hg').2, hS.out.own, hS.out.bl.alloc hS.out.bl.size o⟩
      have hno : ¬ b.l[k].st = st → ∀ o, ER w (wr.alloc o) u5 (ofSt (b.l.take (k + 1)) st) := fun hh o => by rw [ofSt_no hkb hh]; exact hbox o
      have hyes : b.l[k].st = st → ∀ o o', ((wr.alloc o).alloc o').ownsRow 0 110 10 u5 (ofSt (b.l.take k) st).length (cellsE (ofSt (b.l.take k) st)) ∧
          (∀ v' w', w'.ownsRow 0 110 10 v' ((ofSt (b.l.take k) st).length + 1) (cellsE (ofSt (b.l.take k) st) ++ b.l[k].cs) → ((wr.alloc o).alloc o').grownBy w' u5.ownBlock → (∀ g', v'.ownBlock = some g' → u5.ownBlock = some g' ∨ wr.heap.size + 1 + 1 ≤ g') → ER w w' v' (ofSt (b.l.take (k + 1)) st)) := fun hh o o' => by
        have r1 := hbox o
        have r2 := orow_kept (w' := (wr.alloc o).alloc o') r1.row fun g' hg' => Below.heap_alloc _ _ _ (World.ownsRow.lt r1.row g' hg').2
        refine ⟨r2, fun v' w' h1 h2 h3 => ⟨?_, fun g' hg' => ?_, below_grown (r1.bl.alloc (by have := r1.bl.size; omega) o') h2 hS.out.own (Nat.le_refl _)⟩⟩
        · rw [ofSt_yes hkb hh, cellsE_app, List.length_append]; exact h1
        · rcases h3 g' hg' with h4 | h4
          · exact hS.out.own g' h4
          · have := hS.out.bl.size; omega
      have hsz := Lib.hid hS.out.bl.size
      generalize b.l[k] = x at *
      have hnewC : ∀ (j : Nat) (u : Value), x.cs[j]? = some u → ((wr.alloc (.cells x.cs.toArray 110)).alloc (.cells x.cs.toArray 110)).cell? ((⟨wr.heap.size + 1, 0, none⟩ : Addr).add j) = some u := boxE x (new_two wr _ _)
      have h1c := x.cs_one
      replace hnewC := Lib.hid hnewC
      replace h1c := Lib.hid h1c
      by_cases hst : x.st = st
      · have hq : (x.st == st) = true := by simpa using hst
        have hyes := Lib.hid (hyes hst)
        clear hno hbox hpb hst
        go_wp2_with (at_builtin; refine wpList_app1 102 110 10 80 _ Tryz.underlying102 info65 (by rfl) (by omega) (by omega) rfl _ _ rfl rfl _ _ _ rfl (hyes.out _ _).1 ⟨wr.heap.size + 1, 0, none⟩ x.cs rfl rfl hnewC.out h1c.out (by have := hle.out; omega) ?_)
        intro v' w' hr' hg' hv'
        go_wp2_with fail
        go_roundw
        case rel => exact ⟨k + 1, by omega, by go_num, Lib.hid ((hyes.out _ _).2 _ _ hr' hg' hv')⟩
        case measure => simp [intOf]; omega
      · have hq : (x.st == st) = false := by simpa using hst
        have hno := Lib.hid (hno hst)
        clear hyes hbox hpb hst
        go_wp2_with fail
        go_roundw
        case rel => exact ⟨k + 1, by omega, by go_num, Lib.hid (hno.out _)⟩
        case measure => simp [intOf]; omega
    · obtain rfl : k = n := by omega
      have hkz : ¬ (k : Int) < (k : Int) := by omega
      have hS2 : ER w wr u5 (ofSt b.l st) := by have h1 := hS.out; have h2 := hn.out; rw [h2, List.take_length] at h1; exact h1
      obtain ⟨p2, cap2, rfl, -, -, hp2s⟩ := orow_shape hS2.row
      have hec0 : ∀ g, p2 = some ⟨g, 0, none⟩ → ECells wr g (ofSt b.l st) ∧ g < wr.heap.size := fun g e => by
        subst e; exact ⟨orow_ecells hS2.row, (World.ownsRow.lt hS2.row g rfl).2⟩
      have hsome : ∀ j, j < (ofSt b.l st).length → ∃ g, p2 = some ⟨g, 0, none⟩ := fun j hj => by
        obtain ⟨g, c1, cur, e1, _⟩ := orow_some hS2.row (by omega)
        injection e1 with e1 _ _
        exact ⟨g, e1⟩
      have hlm : (ofSt b.l st).length ≤ 1000 := by have := ofSt_le b.l st b.l.length; rw [List.take_length] at this; omega
      have hbl := hS2.bl
      have hrow2 := hS2.row
      have hown2 := hS2.own
      clear hS2 hp2s
      replace hS := True.intro
      obtain ⟨m, hmm⟩ : ∃ m, m = (ofSt b.l st).length := ⟨_, rfl⟩
      have hm1 : m ≤ 1000 := by omega
      by_cases hs2 : st = 2
      · have hq : (st == 2) = true := by simpa using hs2
        have hres2 : Hid (R = (lowest (ofSt b.l st)).map (·.d.id)) := Lib.hid (by rw [hres.out, if_pos hs2])
        have hfl : Hid (m = (lowest (ofSt b.l st)).length) := Lib.hid (by rw [lowest_len]; exact hmm)
        by_cases h0m : m = 0
        · have hsort : ∀ W, Calls Tryz.prog 53 #[.slice p2 (ofSt b.l st).length cap2, .func (.func 54) #[] #[]] W fun e w' => e = .returned (.tuple #[]) ∧ W = w' := fun W => by
            rw [← hmm, h0m]; exact (sortE_nil W p2 cap2).mono fun _ _ h => ⟨h.1, h.2.symm⟩
          have hp2 : Hid (∀ j, j < m → ∃ g, p2 = some ⟨g, 0, none⟩ ∧ ECells wr g (lowest (ofSt b.l st)) ∧ g < wr.heap.size) := Lib.hid fun j hj => by omega
          have hbl2 : Hid (Below w.heap.size w wr) := Lib.hid hbl
          rw [← hmm] at hsort ⊢; clear hres
          clear hec0 hsome hlm hrow2 hown2 hmm hs2 hbl
          generalize lowest (ofSt b.l st) = fl at *
          replace hsort := Lib.hid hsort
          replace h0m := Lib.hid h0m
          go_wp2_with (go_at_call 53; (with_reducible refine (hsort.out _).mono ?_); rintro e w9 ⟨rfl, rfl⟩)
          obtain ⟨w2, rfl⟩ : ∃ w2, w2 = wr := ⟨_, rfl⟩
          go_loopw [8, 35] (fun u i wr => ∃ j : Nat, j ≤ m ∧ i = .int .i64 (j : Int) ∧ Hid (ZR w wr u (idsK fl j) ∧ Below w2.heap.size w2 wr ∧ (∀ g', u.ownBlock = some g' → w2.heap.size ≤ g'))) (fun _ i _ => m - (intOf i).toNat)
          case atStart => exact ⟨0, by omega, rfl, Lib.hid ⟨⟨World.ownsRow_nil _ _ _ _, (fun g hg => by simp [Value.ownBlock] at hg), hbl2.out⟩, Below.refl _ _, (fun g hg => by simp [Value.ownBlock] at hg)⟩⟩
          case round =>
            obtain ⟨j, hj, rfl, hT⟩ := hrel
            by_cases hjm : j < m
            · obtain ⟨g2, hpg, hec, hg2⟩ := hp2.out j hjm
              cases hpg
              have hjl : j < fl.length := by have := hfl.out; omega
              have hec2 := hec.below hT.out.2.1 hg2
              have e0 := hec2 j hjl 0 _ (by omega) rfl
              have e1 := hec2 j hjl 1 _ (by omega) rfl
              have e2 := hec2 j hjl 2 _ (by omega) rfl
              have e3 := hec2 j hjl 3 _ (by omega) rfl
              have e4 := hec2 j hjl 4 _ (by omega) rfl
              have e5 := hec2 j hjl 5 _ (by omega) rfl
              have e6 := hec2 j hjl 6 _ (by omega) rfl
              have e7 := hec2 j hjl 7 _ (by omega) rfl
              have e8 := hec2 j hjl 8 _ (by omega) rfl
              have e9 := hec2 j hjl 9 _ (by omega) rfl
              rw [Nat.add_zero] at e0
              have hjz : (j : Int) < (m : Int) := by omega
              have hgl2 := Nat.lt_of_lt_of_le hg2 hT.out.2.1.size
              have hstep : ∀ o o', ((wr.alloc o).alloc o').ownsRow 0 3 1 u8 (idsK fl j).length ((idsK fl j).map (Value.int .i64)) ∧
                  (∀ v' w', w'.ownsRow 0 3 1 v' ((idsK fl j).length + 1) ((idsK fl j).map (Value.int .i64) ++ [.int .i64 fl[j].d.id]) → ((wr.alloc o).alloc o').grownBy w' u8.ownBlock → (∀ g', v'.ownBlock = some g' → u8.ownBlock = some g' ∨ wr.heap.size + 1 + 1 ≤ g') → ZR w w' v' (idsK fl (j + 1)) ∧ Below w2.heap.size w2 w' ∧ (∀ g', v'.ownBlock = some g' → w2.heap.size ≤ g')) := fun o o' => by
                have hz := hT.out.1
                have r1 : IRow (wr.alloc o) u8 (idsK fl j) := orow_kept hz.row fun g' hg' => Below.heap_alloc _ _ _ (World.ownsRow.lt hz.row g' hg').2
                have r2 : IRow ((wr.alloc o).alloc o') u8 (idsK fl j) := orow_kept r1 fun g' hg' => Below.heap_alloc _ _ _ (World.ownsRow.lt r1 g' hg').2
                have hnot : ∀ g', u8.ownBlock = some g' → w2.heap.size ≤ g' := fun g' hg' => hT.out.2.2 g' hg'
                refine ⟨r2, fun v' w' h1 h2 h3 => ⟨⟨?_, fun g' hg' => ?_, below_grown ((hz.bl.alloc hz.bl.size o).alloc (by have := hz.bl.size; simp; omega) o') h2 hz.own (Nat.le_refl _)⟩, ?_, fun g' hg' => ?_⟩⟩
                · rw [idsK_succ hjl]; exact irow_app h1
                · rcases h3 g' hg' with h4 | h4
                  · exact hz.own g' h4
                  · have := hz.bl.size; omega
                · exact below_grown ((hT.out.2.1.alloc hT.out.2.1.size o).alloc (by have := hT.out.2.1.size; simp; omega) o') h2 hnot (Nat.le_refl _)
                · rcases h3 g' hg' with h4 | h4
                  · exact hnot g' h4
                  · have := hT.out.2.1.size; omega
              have hle2 : Hid ((idsK fl j).length ≤ 1000) := Lib.hid (by have := idsK_le fl j; have := hfl.out; have := hm1; omega)
              generalize fl[j] = y at *
              have hnewD : ∀ (i : Nat) (u : Value), [Value.int .i64 y.d.id][i]? = some u → ((wr.alloc (.cells y.cs.toArray 110)).alloc (.cells #[.int .i64 y.d.id] 3)).cell? ((⟨wr.heap.size + 1, 0, none⟩ : Addr).add i) = some u := fun i u hu => by
                match i with
                | 0 => injection hu with hu; rw [← hu]; exact obj_cell (new_two wr _ _) rfl
                | i + 1 => simp at hu
              replace hnewD := Lib.hid hnewD
              replace hstep := Lib.hid hstep
              clear hec hec2
              go_wp2_with (at_builtin; refine wpList_app1 35 3 1 8 _ Tryz.underlying35 info3 (by rfl) (by omega) (by omega) rfl _ _ rfl rfl _ _ _ rfl (hstep.out _ _).1 ⟨wr.heap.size + 1, 0, none⟩ [.int .i64 y.d.id] rfl rfl hnewD.out (fun u hu => by obtain rfl := List.mem_singleton.1 hu; rfl) (by have := hle2.out; omega) ?_)
              intro v' w' hr' hg' hv'
              go_wp2_with fail
              go_roundw
              case rel => exact ⟨j + 1, by omega, by go_num, Lib.hid ((hstep.out _ _).2 _ _ hr' hg' hv')⟩
              case measure => simp [intOf]; omega
            · obtain rfl : j = m := by omega
              have hjz : ¬ (j : Int) < (j : Int) := by omega
              have hT2 : ZR w wr u8 (fl.map (·.d.id)) := by have h1 := hT.out.1; have h2 := hfl.out; rw [h2, idsK_all] at h1; exact h1
              replace hT2 := Lib.hid hT2
              go_wp2_with fail
              go_ret
              exact ⟨_, rfl, by rw [hres2.out]; exact hT2.out⟩
        · obtain ⟨g3, rfl⟩ := hsome 0 (by omega)
          have hg3 : w.heap.size ≤ g3 := hown2 g3 rfl
          have hsort := sortE_any wr g3 cap2 (ofSt b.l st) hrow2 w.heap.size hg3 hbl.size (hnd.out hs2) hlm
          rw [← hmm] at hsort ⊢; clear hres
          clear hec0 hsome hlm hrow2 hown2 hmm hs2
          generalize lowest (ofSt b.l st) = fl at *
          replace hsort := Lib.hid hsort
          replace h0m := Lib.hid h0m
          replace hbl := Lib.hid hbl
          go_wp2_with (go_at_call 53; (with_reducible refine hsort.out.mono ?_); rintro e w2 ⟨rfl, hec9, hgl9, hbl9⟩; have hp2 : Hid (∀ j, j < m → ∃ g, some (⟨g3, 0, none⟩ : Addr) = some ⟨g, 0, none⟩ ∧ ECells w2 g fl ∧ g < w2.heap.size) := Lib.hid (fun j hj => ⟨g3, rfl, hec9, hgl9⟩); clear hec9 hgl9; have hbl2 : Hid (Below w.heap.size w w2) := Lib.hid (hbl.out.trans hbl9); clear hbl9)
          go_loopw [8, 35] (fun u i wr => ∃ j : Nat, j ≤ m ∧ i = .int .i64 (j : Int) ∧ Hid (ZR w wr u (idsK fl j) ∧ Below w2.heap.size w2 wr ∧ (∀ g', u.ownBlock = some g' → w2.heap.size ≤ g'))) (fun _ i _ => m - (intOf i).toNat)
          case atStart => exact ⟨0, by omega, rfl, Lib.hid ⟨⟨World.ownsRow_nil _ _ _ _, (fun g hg => by simp [Value.ownBlock] at hg), hbl2.out⟩, Below.refl _ _, (fun g hg => by simp [Value.ownBlock] at hg)⟩⟩
          case round =>
            obtain ⟨j, hj, rfl, hT⟩ := hrel
            by_cases hjm : j < m
            · obtain ⟨g2, hpg, hec, hg2⟩ := hp2.out j hjm
              cases hpg
              have hjl : j < fl.length := by have := hfl.out; omega
              have hec2 := hec.below hT.out.2.1 hg2
              have e0 := hec2 j hjl 0 _ (by omega) rfl
              have e1 := hec2 j hjl 1 _ (by omega) rfl
              have e2 := hec2 j hjl 2 _ (by omega) rfl
              have e3 := hec2 j hjl 3 _ (by omega) rfl
              have e4 := hec2 j hjl 4 _ (by omega) rfl
              have e5 := hec2 j hjl 5 _ (by omega) rfl
              have e6 := hec2 j hjl 6 _ (by omega) rfl
              have e7 := hec2 j hjl 7 _ (by omega) rfl
              have e8 := hec2 j hjl 8 _ (by omega) rfl
              have e9 := hec2 j hjl 9 _ (by omega) rfl
              rw [Nat.add_zero] at e0
              have hjz : (j : Int) < (m : Int) := by omega
              have hgl2 := Nat.lt_of_lt_of_le hg2 hT.out.2.1.size
              have hstep : ∀ o o', ((wr.alloc o).alloc o').ownsRow 0 3 1 u8 (idsK fl j).length ((idsK fl j).map (Value.int .i64)) ∧
                  (∀ v' w', w'.ownsRow 0 3 1 v' ((idsK fl j).length + 1) ((idsK fl j).map (Value.int .i64) ++ [.int .i64 fl[j].d.id]) → ((wr.alloc o).alloc o').grownBy w' u8.ownBlock → (∀ g', v'.ownBlock = some g' → u8.ownBlock = some g' ∨ wr.heap.size + 1 + 1 ≤ g') → ZR w w' v' (idsK fl (j + 1)) ∧ Below w2.heap.size w2 w' ∧ (∀ g', v'.ownBlock = some g' → w2.heap.size ≤ g')) := fun o o' => by
                have hz := hT.out.1
                have r1 : IRow (wr.alloc o) u8 (idsK fl j) := orow_kept hz.row fun g' hg' => Below.heap_alloc _ _ _ (World.ownsRow.lt hz.row g' hg').2
                have r2 : IRow ((wr.alloc o).alloc o') u8 (idsK fl j) := orow_kept r1 fun g' hg' => Below.heap_alloc _ _ _ (World.ownsRow.lt r1 g' hg').2
                have hnot : ∀ g', u8.ownBlock = some g' → w2.heap.size ≤ g' := fun g' hg' => hT.out.2.2 g' hg'
                refine ⟨r2, fun v' w' h1 h2 h3 => ⟨⟨?_, fun g' hg' => ?_, below_grown ((hz.bl.alloc hz.bl.size o).alloc (by have := hz.bl.size; simp; omega) o') h2 hz.own (Nat.le_refl _)⟩, ?_, fun g' hg' => ?_⟩⟩
                · rw [idsK_succ hjl]; exact irow_app h1
                · rcases h3 g' hg' with h4 | h4
                  · exact hz.own g' h4
                  · have := hz.bl.size; omega
                · exact below_grown ((hT.out.2.1.alloc hT.out.2.1.size o).alloc (by have := hT.out.2.1.size; simp; omega) o') h2 hnot (Nat.le_refl _)
                · rcases h3 g' hg' with h4 | h4
                  · exact hnot g' h4
                  · have := hT.out.2.1.size; omega
              have hle2 : Hid ((idsK fl j).length ≤ 1000) := Lib.hid (by have := idsK_le fl j; have := hfl.out; have := hm1; omega)
              generalize fl[j] = y at *
              have hnewD : ∀ (i : Nat) (u : Value), [Value.int .i64 y.d.id][i]? = some u → ((wr.alloc (.cells y.cs.toArray 110)).alloc (.cells #[.int .i64 y.d.id] 3)).cell? ((⟨wr.heap.size + 1, 0, none⟩ : Addr).add i) = some u := fun i u hu => by
                match i with
                | 0 => injection hu with hu; rw [← hu]; exact obj_cell (new_two wr _ _) rfl
                | i + 1 => simp at hu
              replace hnewD := Lib.hid hnewD
              replace hstep := Lib.hid hstep
              clear hec hec2
              go_wp2_with (at_builtin; refine wpList_app1 35 3 1 8 _ Tryz.underlying35 info3 (by rfl) (by omega) (by omega) rfl _ _ rfl rfl _ _ _ rfl (hstep.out _ _).1 ⟨wr.heap.size + 1, 0, none⟩ [.int .i64 y.d.id] rfl rfl hnewD.out (fun u hu => by obtain rfl := List.mem_singleton.1 hu; rfl) (by have := hle2.out; omega) ?_)
              intro v' w' hr' hg' hv'
              go_wp2_with fail
              go_roundw
              case rel => exact ⟨j + 1, by omega, by go_num, Lib.hid ((hstep.out _ _).2 _ _ hr' hg' hv')⟩
              case measure => simp [intOf]; omega
            · obtain rfl : j = m := by omega
              have hjz : ¬ (j : Int) < (j : Int) := by omega
              have hT2 : ZR w wr u8 (fl.map (·.d.id)) := by have h1 := hT.out.1; have h2 := hfl.out; rw [h2, idsK_all] at h1; exact h1
              replace hT2 := Lib.hid hT2
              go_wp2_with fail
              go_ret
              exact ⟨_, rfl, by rw [hres2.out]; exact hT2.out⟩
      · have hq : (st == 2) = false := by simpa using hs2
        have hres2 : Hid (R = (ofSt b.l st).map (·.d.id)) := Lib.hid (by rw [hres.out, if_neg hs2])
        have hfl : Hid (m = (ofSt b.l st).length) := Lib.hid hmm
        have hp2 : Hid (∀ j, j < m → ∃ g, p2 = some ⟨g, 0, none⟩ ∧ ECells wr g (ofSt b.l st) ∧ g < wr.heap.size) := Lib.hid fun j hj => by
          obtain ⟨g, e⟩ := hsome j (by omega); exact ⟨g, e, hec0 g e⟩
        have hbl2 : Hid (Below w.heap.size w wr) := Lib.hid hbl
        rw [← hmm]
        clear hres
        clear hec0 hsome hlm hrow2 hown2 hmm hs2 hbl
        generalize (ofSt b.l st) = fl at *
        obtain ⟨w2, rfl⟩ : ∃ w2, w2 = wr := ⟨_, rfl⟩
        go_wp2_with fail
        go_loopw [8, 35] (fun u i wr => ∃ j : Nat, j ≤ m ∧ i = .int .i64 (j : Int) ∧ Hid (ZR w wr u (idsK fl j) ∧ Below w2.heap.size w2 wr ∧ (∀ g', u.ownBlock = some g' → w2.heap.size ≤ g'))) (fun _ i _ => m - (intOf i).toNat)
        case atStart => exact ⟨0, by omega, rfl, Lib.hid ⟨⟨World.ownsRow_nil _ _ _ _, (fun g hg => by simp [Value.ownBlock] at hg), hbl2.out⟩, Below.refl _ _, (fun g hg => by simp [Value.ownBlock] at hg)⟩⟩
        case round =>
          obtain ⟨j, hj, rfl, hT⟩ := hrel
          by_cases hjm : j < m
          · obtain ⟨g2, hpg, hec, hg2⟩ := hp2.out j hjm
            cases hpg
            have hjl : j < fl.length := by have := hfl.out; omega
            have hec2 := hec.below hT.out.2.1 hg2
            have e0 := hec2 j hjl 0 _ (by omega) rfl
            have e1 := hec2 j hjl 1 _ (by omega) rfl
            have e2 := hec2 j hjl 2 _ (by omega) rfl
            have e3 := hec2 j hjl 3 _ (by omega) rfl
            have e4 := hec2 j hjl 4 _ (by omega) rfl
            have e5 := hec2 j hjl 5 _ (by omega) rfl
            have e6 := hec2 j hjl 6 _ (by omega) rfl
            have e7 := hec2 j hjl 7 _ (by omega) rfl
            have e8 := hec2 j hjl 8 _ (by omega) rfl
            have e9 := hec2 j hjl 9 _ (by omega) rfl
            rw [Nat.add_zero] at e0
            have hjz : (j : Int) < (m : Int) := by omega
            have hgl2 := Nat.lt_of_lt_of_le hg2 hT.out.2.1.size
            have hstep : ∀ o o', ((wr.alloc o).alloc o').ownsRow 0 3 1 u8 (idsK fl j).length ((idsK fl j).map (Value.int .i64)) ∧
                (∀ v' w', w'.ownsRow 0 3 1 v' ((idsK fl j).length + 1) ((idsK fl j).map (Value.int .i64) ++ [.int .i64 fl[j].d.id]) → ((wr.alloc o).alloc o').grownBy w' u8.ownBlock → (∀ g', v'.ownBlock = some g' → u8.ownBlock = some g' ∨ wr.heap.size + 1 + 1 ≤ g') → ZR w w' v' (idsK fl (j + 1)) ∧ Below w2.heap.size w2 w' ∧ (∀ g', v'.ownBlock = some g' → w2.heap.size ≤ g')) := fun o o' => by
              have hz := hT.out.1
              have r1 : IRow (wr.alloc o) u8 (idsK fl j) := orow_kept hz.row fun g' hg' => Below.heap_alloc _ _ _ (World.ownsRow.lt hz.row g' hg').2
              have r2 : IRow ((wr.alloc o).alloc o') u8 (idsK fl j) := orow_kept r1 fun g' hg' => Below.heap_alloc _ _ _ (World.ownsRow.lt r1 g' hg').2
              have hnot : ∀ g', u8.ownBlock = some g' → w2.heap.size ≤ g' := fun g' hg' => hT.out.2.2 g' hg'
              refine ⟨r2, fun v' w' h1 h2 h3 => ⟨⟨?_, fun g' hg' => ?_, below_grown ((hz.bl.alloc hz.bl.size o).alloc (by have := hz.bl.size; simp; omega) o') h2 hz.own (Nat.le_refl _)⟩, ?_, fun g' hg' => ?_⟩⟩
              · rw [idsK_succ hjl]; exact irow_app h1
              · rcases h3 g' hg' with h4 | h4
                · exact hz.own g' h4
                · have := hz.bl.size; omega
              · exact below_grown ((hT.out.2.1.alloc hT.out.2.1.size o).alloc (by have := hT.out.2.1.size; simp; omega) o') h2 hnot (Nat.le_refl _)
              · rcases h3 g' hg' with h4 | h4
                · exact hnot g' h4
                · have := hT.out.2.1.size; omega
            have hle2 : Hid ((idsK fl j).length ≤ 1000) := Lib.hid (by have := idsK_le fl j; have := hfl.out; have := hm1; omega)
            generalize fl[j] = y at *
            have hnewD : ∀ (i : Nat) (u : Value), [Value.int .i64 y.d.id][i]? = some u → ((wr.alloc (.cells y.cs.toArray 110)).alloc (.cells #[.int .i64 y.d.id] 3)).cell? ((⟨wr.heap.size + 1, 0, none⟩ : Addr).add i) = some u := fun i u hu => by
              match i with
              | 0 => injection hu with hu; rw [← hu]; exact obj_cell (new_two wr _ _) rfl
              | i + 1 => simp at hu
            replace hnewD := Lib.hid hnewD
            replace hstep := Lib.hid hstep
            clear hec hec2
            go_wp2_with (at_builtin; refine wpList_app1 35 3 1 8 _ Tryz.underlying35 info3 (by rfl) (by omega) (by omega) rfl _ _ rfl rfl _ _ _ rfl (hstep.out _ _).1 ⟨wr.heap.size + 1, 0, none⟩ [.int .i64 y.d.id] rfl rfl hnewD.out (fun u hu => by obtain rfl := List.mem_singleton.1 hu; rfl) (by have := hle2.out; omega) ?_)
            intro v' w' hr' hg' hv'
            go_wp2_with fail
            go_roundw
            case rel => exact ⟨j + 1, by omega, by go_num, Lib.hid ((hstep.out _ _).2 _ _ hr' hg' hv')⟩
            case measure => simp [intOf]; omega
          · obtain rfl : j = m := by omega
            have hjz : ¬ (j : Int) < (j : Int) := by omega
            have hT2 : ZR w wr u8 (fl.map (·.d.id)) := by have h1 := hT.out.1; have h2 := hfl.out; rw [h2, idsK_all] at h1; exact h1
            replace hT2 := Lib.hid hT2
            go_wp2_with fail
            go_ret
            exact ⟨_, rfl, by rw [hres2.out]; exact hT2.out⟩
end
end Go.Proofs.YthocnlalahknjaaGreat.Dd
