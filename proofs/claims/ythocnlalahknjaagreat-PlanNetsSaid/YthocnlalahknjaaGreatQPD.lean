/- Dues of a call's own, the library's sort of them, and the contract of upTo. -/
import Derived.Test.YthocnlalahknjaaGreatQPC
import Derived.Test.YthocnlalahknjaaGreatQDc
import Derived.Test.YthocnlalahknjaaGreatShelfS
namespace Go.Proofs.YthocnlalahknjaaGreat.Dd
open Go.RowKit Go.Maps Go.Sort
set_option linter.unusedVariables false

theorem info39 : (Tryz.prog.info? 39).map (fun i => (i.zero, i.size, i.bytes)) = some (some (.agg #[.int .i64 0, .int .i64 0, .int .i64 0, .int .i64 0]), 4, 32) := by kernel_rfl
/-- a row of dues, new since w -/
structure UR (w wr : World) (u : Value) (l : List Du) : Prop where
  row : wr.ownsRow 0 39 4 u l.length (cellsU l)
  own : ∀ g, u.ownBlock = some g → w.heap.size ≤ g
  bl : Below w.heap.size w wr
theorem UR.seq {w wr : World} {u : Value} {l : List Du} (h : UR w wr u l) : USeq wr u l := by
  obtain ⟨p, cap, rfl, hc, -, hp⟩ := orow_shape h.row
  refine ⟨p, cap, rfl, hc, ?_⟩
  cases l with
  | nil => exact .inl rfl
  | cons d r =>
    obtain ⟨g, c1, cur, e1, _⟩ := orow_some h.row (by simp)
    injection e1 with e1 _ _
    subst e1
    refine .inr ⟨g, 0, rfl, (World.ownsRow.lt h.row g rfl).2, fun i hi j u hu => ?_⟩
    rw [Nat.zero_add]
    have hj : j < 4 := by
      have := (List.getElem?_eq_some_iff.1 hu).1
      rwa [Du.cs_len] at this
    exact orow_cell h.row rfl ((cellsU_at hi j hj).trans hu)
/-- dues' cells from a block's head on -/
def UCells (w : World) (g : Nat) (l : List Du) : Prop := ∀ i (h : i < l.length) j u, l[i].cs[j]? = some u → w.cell? ⟨g, i * 4 + j, none⟩ = some u
theorem ucs_get (x : Du) (j : Nat) (hj : j < 4) : x.cs[j]? = some x.cs[j]! := by
  rw [List.getElem?_eq_getElem (by rw [Du.cs_len]; exact hj), getElem!_pos x.cs j (by rw [Du.cs_len]; exact hj)]
theorem urow_holds {w : World} {g cap : Nat} {l : List Du} (h : w.ownsRow 0 39 4 (.slice (some ⟨g, 0, none⟩) l.length cap) l.length (cellsU l)) : HoldsK Du.cs 4 w g 0 l.toArray := by
  intro j hj
  rw [size_flatK] at hj
  have hj' : j < l.length * 4 := by simpa using hj
  have hi : j / 4 < l.length := by omega
  refine ⟨?_, orow_free h rfl _⟩
  have e1 : l.toArray[j / 4]! = l[j / 4] := by rw [getElem!_pos l.toArray (j / 4) (by simpa using hi)]; simp
  rw [get_flatK _ _ _ _ hj, e1, Nat.zero_add]
  have := orow_cell h (g := g) (j := j / 4 * 4 + j % 4) rfl ((cellsU_at hi (j % 4) (by omega)).trans (ucs_get l[j / 4] (j % 4) (by omega)))
  rw [show j / 4 * 4 + j % 4 = j by omega] at this
  exact this
theorem holds_ucells {w : World} {g : Nat} {d : Array Du} (h : HoldsK Du.cs 4 w g 0 d) : UCells w g d.toList := by
  intro i hi j u hu
  have hi' : i < d.size := by simpa using hi
  have hj : j < 4 := by
    have := (List.getElem?_eq_some_iff.1 hu).1
    rwa [Du.cs_len] at this
  have ht : i * 4 + j < d.size * 4 := by omega
  have := (h (i * 4 + j) (by rw [size_flatK]; exact ht)).1
  rw [get_flatK _ _ _ _ ht, Nat.zero_add, show (i * 4 + j) / 4 = i by omega, show (i * 4 + j) % 4 = j by omega, getElem!_pos d i hi'] at this
  rw [this]
  have e : d.toList[i] = d[i] := by simp
  rw [e, ucs_get _ _ hj] at hu
  exact hu
theorem UCells.seq {w : World} {g cap : Nat} {l : List Du} (h : UCells w g l) (hg : g < w.heap.size) (hc : l.length ≤ cap) : USeq w (.slice (some ⟨g, 0, none⟩) l.length cap) l :=
  ⟨_, cap, rfl, hc, .inr ⟨g, 0, rfl, hg, fun i hi j u hu => by rw [Nat.zero_add]; exact h i hi j u hu⟩⟩
theorem below_sortU (W : World) (B g off N : Nat) (d : Array Du) (os : Array Obj) (hg : B ≤ g) (hB : B ≤ W.heap.size) : Below B W (sortWorldK Du.cs 4 W g off N d os) := by
  refine ⟨rfl, rfl, rfl, ?_, fun k hk => ?_⟩
  · simp [sortWorldK, Sort.grow, putRowK, Sort.putRow, Sort.mapBlock, Sort.ahead]
  · show ((putRowK Du.cs 4 (Sort.ahead W N) g off d).heap ++ os)[k]? = W.heap[k]?
    rw [Array.getElem?_append_left (by simp [putRowK, Sort.putRow, Sort.mapBlock, Sort.ahead]; omega)]
    simp only [putRowK, Sort.putRow, Sort.mapBlock, Sort.ahead, Array.getElem?_modify]
    rw [if_neg (by omega)]
theorem cmp_neg {x y : Int} : Lib.compareInt x y < 0 ↔ x < y := by unfold Lib.compareInt; split <;> (try split) <;> omega
theorem byAcc_neg {d e : Du} : byAcc d e < 0 ↔ d.m < e.m ∨ (d.m = e.m ∧ d.c < e.c) := by
  unfold byAcc orOf
  by_cases h : Lib.compareInt d.m e.m = 0
  · rw [if_pos h, cmp_neg]; rw [cmp_zero] at h; omega
  · rw [if_neg h, cmp_neg]; rw [cmp_zero] at h; omega
theorem byAcc_zero {d e : Du} : byAcc d e = 0 ↔ d.m = e.m ∧ d.c = e.c := by unfold byAcc; rw [orOf_zero, cmp_zero, cmp_zero]
theorem byTk_neg {d e : Du} : byTk d e < 0 ↔ d.t < e.t ∨ (d.t = e.t ∧ byAcc d e < 0) := by
  unfold byTk
  generalize byAcc d e = y
  unfold orOf
  by_cases h : Lib.compareInt d.t e.t = 0
  · rw [if_pos h]; rw [cmp_zero] at h; omega
  · rw [if_neg h, cmp_neg]; rw [cmp_zero] at h; omega
theorem ltAcc (x y : Du) : ltOf byAcc x y = true ↔ x.m < y.m ∨ (x.m = y.m ∧ x.c < y.c) := by unfold ltOf; rw [decide_eq_true_iff, byAcc_neg]
theorem ltTk (x y : Du) : ltOf byTk x y = true ↔ x.t < y.t ∨ (x.t = y.t ∧ (x.m < y.m ∨ (x.m = y.m ∧ x.c < y.c))) := by unfold ltOf; rw [decide_eq_true_iff, byTk_neg, byAcc_neg]
theorem swoAcc : SWO (ltOf byAcc) where
  irrefl x := by rw [← Bool.not_eq_true, ltAcc]; omega
  trans x y z h1 h2 := by rw [ltAcc] at *; omega
  ntrans x y z h1 h2 := by rw [← Bool.not_eq_true, ltAcc] at *; omega
theorem swoTk : SWO (ltOf byTk) where
  irrefl x := by rw [← Bool.not_eq_true, ltTk]; omega
  trans x y z h1 h2 := by rw [ltTk] at *; omega
  ntrans x y z h1 h2 := by rw [← Bool.not_eq_true, ltTk] at *; omega

/-- dues in an order -/
def InOrder (f : Du → Du → Int) (L : List Du) : Prop := L.Pairwise fun a b => ¬ f b a < 0
theorem sorted_list {f : Du → Du → Int} {l : List Du} {d : Array Du} (hp : PermIn 0 l.toArray.size l.toArray d) (hs : SortedIn (ltOf f) 0 l.toArray.size d) : d.toList.Perm l ∧ InOrder f d.toList := by
  obtain ⟨hsz, _, hperm⟩ := hp
  have hsz' : d.size = l.length := by simpa using hsz
  have e1 : d.extract 0 l.toArray.size = d := by
    have := Array.extract_size (xs := d); rwa [hsz] at this
  have e2 : l.toArray.extract 0 l.toArray.size = l.toArray := Array.extract_size
  rw [e1, e2] at hperm
  refine ⟨by simpa using hperm, ?_⟩
  unfold InOrder
  rw [List.pairwise_iff_getElem]
  intro i j hi hj hij
  have hi' : i < d.size := by simpa using hi
  have hj' : j < d.size := by simpa using hj
  have h := hs i j (Nat.zero_le _) hij (by simpa using (by omega : j < l.length))
  rw [getElem!_pos d i hi', getElem!_pos d j hj'] at h
  unfold ltOf at h
  simpa using h
theorem sortU_any (fn : Nat) (f : Du → Du → Int) (hf : ∀ x y W, Calls Tryz.prog fn #[.agg x.cs.toArray, .agg y.cs.toArray] W fun e w' => e = .returned (.int .i64 (f x y)) ∧ ∃ q os', w' = grow (W.drewN q) os') (hswo : SWO (ltOf f))
    (eg : ∀ args w, (callFunc fn args).run Tryz.prog w = .ok (.enter fn args) w) (w : World) (g cap : Nat) (l : List Du) (h : w.ownsRow 0 39 4 (.slice (some ⟨g, 0, none⟩) l.length cap) l.length (cellsU l)) (B : Nat) (hg : B ≤ g) (hB : B ≤ w.heap.size) (hlen : l.length ≤ 1000000) :
    Calls Tryz.prog 35 #[.slice (some ⟨g, 0, none⟩) l.length cap, .func (.func fn) #[] #[]] w fun e w' => e = .returned (.tuple #[]) ∧ ∃ L : List Du, L.Perm l ∧ InOrder f L ∧ USeq w' (.slice (some ⟨g, 0, none⟩) l.length cap) L ∧ Below B w w' := by
  have hgl := (World.ownsRow.lt h g rfl).2
  obtain ⟨_, _, h3, hcap, -⟩ := orow_shape h
  injection h3 with _ _ h3
  have hcon := AnyQ.slices_SortFunc Tryz.laysF35 4 Tryz.isAgg39 Tryz.sizeOf39 Du.cs Du.cs_len (fun x v hv => Du.cs_one x v hv) f hswo fn #[] g 0 cap l.toArray w eg (fun _ _ _ _ x y => hf x y _) (urow_holds h) hgl (by simp; omega)
  have hsz : l.toArray.size = l.length := by simp
  rw [hsz] at hcon
  refine Calls.mono hcon ?_
  rintro e w' ⟨he, d', n, os, hp, hs, rfl⟩
  obtain ⟨h1, h2⟩ := sorted_list (by rw [hsz]; exact hp) (by rw [hsz]; exact hs)
  have hlL : d'.toList.length = l.length := h1.length_eq
  refine ⟨he, d'.toList, h1, h2, ?_, below_sortU _ _ _ _ _ _ _ hg hB⟩
  rw [← hlL]
  exact (holds_ucells (holdsK_sortWorldK _ _ _ _ _ _ _ _ _ hgl (urow_holds h) (by have := hp.1; simpa using this))).seq (lt_sortWorldK _ _ _ _ _ _ _ _ hgl) (by omega)
end Go.Proofs.YthocnlalahknjaaGreat.Dd
