/- A region that draws its order: what every order keeps is there at its end. -/
import Derived.Test.YtgcliallkfnhaaaUB
namespace Go.Proofs.Ytgcliallkfnhaaa
open Go.RowKit
set_option linter.unusedVariables false

/-- the operations that stand ahead of number i in every order -/
def deps (md : Region.Mode) (ops : Array Oper) (i : Nat) : List Nat := ((ops[i]?).map fun o => (o.after.toList.filter (Region.binds md)).map (·.on)).getD []
theorem ready_mem {md : Region.Mode} {ops : Array Oper} {listed : Array Bool} {i : Nat} : i ∈ Region.ready md ops listed ↔ i < ops.size ∧ listed.getD i true = false ∧ ∀ j ∈ deps md ops i, listed.getD j false = true := by
  unfold Region.ready deps
  rw [List.mem_filter, List.mem_range]
  constructor
  · rintro ⟨h1, h2⟩
    rw [Bool.and_eq_true] at h2
    obtain ⟨h2, h3⟩ := h2
    refine ⟨h1, by simpa using h2, fun j hj => ?_⟩
    rw [Array.getElem?_eq_getElem h1] at h3 hj
    simp only [Option.map_some, Option.getD_some] at h3 hj
    obtain ⟨e, he, rfl⟩ := List.mem_map.1 hj
    obtain ⟨he1, he2⟩ := List.mem_filter.1 he
    rw [Array.all_eq_true'] at h3
    have := h3 e (by simpa using he1)
    rw [he2] at this
    simpa using this
  · rintro ⟨h1, h2, h3⟩
    refine ⟨h1, ?_⟩
    rw [Array.getElem?_eq_getElem h1] at h3 ⊢
    simp only [Option.map_some, Option.getD_some] at h3 ⊢
    rw [h2]
    simp only [Bool.not_false, Bool.true_and]
    rw [Array.all_eq_true']
    intro e he
    cases hb : Region.binds md e with
    | false => rfl
    | true =>
      have := h3 e.on (List.mem_map.2 ⟨e, List.mem_filter.2 ⟨by simpa using he, hb⟩, rfl⟩)
      simpa using this
/-- how many of the first n are not listed -/
def lft (listed : Array Bool) : Nat → Nat
  | 0 => 0
  | n + 1 => lft listed n + (if listed.getD n true = false then 1 else 0)
theorem lft_le (listed : Array Bool) : ∀ n, lft listed n ≤ n
  | 0 => Nat.le_refl _
  | n + 1 => by unfold lft; have := lft_le listed n; split <;> omega
theorem set_true {listed : Array Bool} {i j : Nat} : (listed.setIfInBounds i true).getD j true = if j = i then true else listed.getD j true := by
  simp only [Array.getD_eq_getD_getElem?, Array.getElem?_setIfInBounds]
  split
  · rename_i h; subst h; split <;> simp_all
  · rename_i h; rw [if_neg (Ne.symm h)]
theorem set_false {listed : Array Bool} {i j : Nat} (h : (listed.setIfInBounds i true).getD j false = true) : listed.getD j false = true ∨ j = i := by
  simp only [Array.getD_eq_getD_getElem?, Array.getElem?_setIfInBounds] at h ⊢
  split at h
  · rename_i e; exact .inr e.symm
  · exact .inl h
theorem lft_set {listed : Array Bool} {i : Nat} (h : listed.getD i true = false) : ∀ n, lft (listed.setIfInBounds i true) n + (if i < n then 1 else 0) = lft listed n
  | 0 => rfl
  | n + 1 => by
    have := lft_set h n
    unfold lft
    rw [set_true]
    by_cases e : n = i
    · subst e
      rw [if_pos rfl, if_pos (by omega : n < n + 1), if_pos h]
      rw [if_neg (by omega : ¬ n < n)] at this
      simp; omega
    · rw [if_neg e]
      by_cases e2 : i < n
      · rw [if_pos (by omega : i < n + 1)]
        rw [if_pos e2] at this
        omega
      · rw [if_neg (by omega : ¬ i < n + 1)]
        rw [if_neg e2] at this
        omega
theorem lft_pos {listed : Array Bool} {i n : Nat} (h : listed.getD i true = false) (hi : i < n) : 0 < lft listed n := by
  have := lft_set h n
  rw [if_pos hi] at this
  omega
theorem all_listed {md : Region.Mode} {ops : Array Oper} {listed : Array Bool} (hs : listed.size = ops.size) (hd : ((List.range ops.size).all fun i => (deps md ops i).all (· < i)) = true) (hr : Region.ready md ops listed = []) :
    ∀ i, i < ops.size → listed.getD i false = true := by
  intro i
  induction i using Nat.strongRecOn with
  | _ i ih =>
    intro hi
    cases h : listed.getD i false with
    | true => rfl
    | false =>
      exfalso
      have h2 : listed.getD i true = false := by
        simp only [Array.getD_eq_getD_getElem?, Array.getElem?_eq_getElem (show i < listed.size by omega), Option.getD_some] at h ⊢
        exact h
      have : i ∈ Region.ready md ops listed := ready_mem.2 ⟨hi, h2, fun j hj => by
        have hdi := List.all_eq_true.1 (List.all_eq_true.1 hd i (List.mem_range.2 hi)) j hj
        have hji : j < i := by simpa using hdi
        exact ih j hji (by omega)⟩
      rw [hr] at this
      cases this
/-- one more is listed -/
def add (L : Nat → Bool) (i : Nat) : Nat → Bool := fun j => L j || decide (j = i)
theorem add_iff {L : Nat → Bool} {i j : Nat} : add L i j = true ↔ L j = true ∨ j = i := by unfold add; simp
theorem set_add {listed : Array Bool} {i : Nat} (hi : i < listed.size) : (fun j => (listed.setIfInBounds i true).getD j false) = add (fun j => listed.getD j false) i := by
  funext j
  unfold add
  simp only [Array.getD_eq_getD_getElem?, Array.getElem?_setIfInBounds]
  by_cases e : i = j
  · subst e; simp [hi]
  · rw [if_neg e]; simp [Ne.symm e]
theorem wpAny_keeps {P : Program} {md : Region.Mode} {ops : Array Oper} {Q : Exit → Act → World → Prop} (I : (Nat → Bool) → Act → World → Prop)
    (hd : ((List.range ops.size).all fun i => (deps md ops i).all (· < i)) = true)
    (hstep : ∀ L a w i, i < ops.size → L i = false → I L a w → (∀ j ∈ deps md ops i, L j = true) → wpOp P ops Q i (fun a' w' => I (add L i) a' w') a w)
    (hend : ∀ L a w, I L a w → (∀ i, i < ops.size → L i = true) → Q .normal a w) :
    ∀ fuel listed a w, listed.size = ops.size → lft listed ops.size ≤ fuel → I (fun j => listed.getD j false) a w → wpAny P md ops Q fuel listed a w := by
  intro fuel
  induction fuel with
  | zero =>
    intro listed a w hs hf hI
    have hr : Region.ready md ops listed = [] := by
      cases h : Region.ready md ops listed with
      | nil => rfl
      | cons i r =>
        obtain ⟨h1, h2, _⟩ := ready_mem.1 (show i ∈ Region.ready md ops listed by rw [h]; exact List.mem_cons_self ..)
        have := lft_pos h2 h1
        omega
    exact ⟨hr, hend _ _ _ hI (all_listed hs hd hr)⟩
  | succ fuel ih =>
    intro listed a w hs hf hI
    refine ⟨fun hr => hend _ _ _ hI (all_listed hs hd hr), fun i hi => ?_⟩
    obtain ⟨h1, h2, h3⟩ := ready_mem.1 hi
    refine wpOp_mono (fun a' w' h => ?_) (hstep _ a w i h1 (by
      simp only [Array.getD_eq_getD_getElem?, Array.getElem?_eq_getElem (show i < listed.size by omega), Option.getD_some] at h2 ⊢
      exact h2) hI h3)
    refine ih _ a' w' (by simpa using hs) ?_ (by rw [set_add (by omega)]; exact h)
    have := lft_set h2 ops.size
    rw [if_pos h1] at this
    omega
theorem wp_region_keeps {P : Program} {id : Nat} {ops : Array Oper} {Q : Exit → Act → World → Prop} {a : Act} {w : World} (hm : P.follows .mixedOrders = true) (I : (Nat → Bool) → Act → World → Prop)
    (hd : ((List.range ops.size).all fun i => (deps .any ops i).all (· < i)) = true)
    (hbeg : I (fun _ => false) a w.drew)
    (hstep : ∀ L a w i, i < ops.size → L i = false → I L a w → (∀ j ∈ deps .any ops i, L j = true) → wpOp P ops Q i (fun a' w' => I (add L i) a' w') a w)
    (hend : ∀ L a w, I L a w → (∀ i, i < ops.size → L i = true) → Q .normal a w) : (Code.region id ops true).wp P Q a w := by
  refine wp_region_any hm ?_
  refine wpAny_keeps I hd hstep hend _ _ _ _ (by simp) (lft_le _ _) ?_
  have e : (fun j => (Array.replicate ops.size false).getD j false) = fun _ => false := by
    funext j
    simp [Array.getElem?_replicate]
    split <;> simp
  rw [e]
  exact hbeg

/-- one field's part of a region: the pointer, its number's place, fieldAt's answer, a cell for it -/
structure Tri (L : Nat → Bool) (c i B o m s : Nat) (mv nc fa cl al : Value) (w : World) : Prop where
  hmv : L o = true → mv = .pointer (some ⟨c, 0, none⟩)
  hnc : L (o + 1) = true → nc = .pointer (some ⟨c, 0, none⟩)
  hfa : L (o + 2) = true → fa = .pointer (some ⟨c, i + 1, none⟩)
  hcl : L (o + 3) = true → ∃ a b, cl = .agg (fArr i a b) ∧ Fld w c i a b ∧ B ≤ a ∧ B ≤ b
  hal : L m = true → ∃ g cur, al = .pointer (some ⟨g, 0, none⟩) ∧ B ≤ g ∧ w.heap[g]? = some (.cells cur 67 (0, 0)) ∧ cur.size = 3 ∧ (L s = true → cl = .agg cur)
  hs : L s = true → L m = true ∧ L (o + 3) = true
section
variable {L : Nat → Bool} {c i B o m s n : Nat} {mv nc fa cl al : Value} {w w' : World}
theorem Tri.zero : Tri (fun _ => false) c i B o m s mv nc fa cl al w :=
  ⟨nofun, nofun, nofun, nofun, nofun, nofun⟩
theorem add_ne {j : Nat} (h : add L n j = true) (hj : j ≠ n) : L j = true := (add_iff.1 h).resolve_right hj
theorem add_old {j : Nat} (h : L j = true) : add L n j = true := add_iff.2 (.inl h)
/-- another operation, that leaves what is there alone -/
theorem Tri.other (h : Tri L c i B o m s mv nc fa cl al w) (n : Nat) (hb : ∀ j, j < w.heap.size → (∀ cur, w.heap[j]? = some (.cells cur 67 (0, 0)) → al = .pointer (some ⟨j, 0, none⟩)) → w'.heap[j]? = w.heap[j]?) (h1 : n ≠ o ∧ n ≠ o + 1 ∧ n ≠ o + 2 ∧ n ≠ o + 3 ∧ n ≠ m ∧ n ≠ s) : Tri (add L n) c i B o m s mv nc fa cl al w' := by
  obtain ⟨a1, a2, a3, a4, a5, a6⟩ := h1
  refine ⟨fun e => h.hmv (add_ne e (Ne.symm a1)), fun e => h.hnc (add_ne e (Ne.symm a2)), fun e => h.hfa (add_ne e (Ne.symm a3)), fun e => ?_, fun e => ?_, fun e => ?_⟩
  · obtain ⟨a, b, e1, e2, e3⟩ := h.hcl (add_ne e (Ne.symm a4))
    refine ⟨a, b, e1, ⟨(hb a (obj_lt e2.pa) fun cur hc => ?_).trans e2.pa, (hb b (obj_lt e2.pb) fun cur hc => ?_).trans e2.pb⟩, e3⟩
    · rw [e2.pa] at hc; unfold ptrT at hc; split at hc <;> simp at hc
    · rw [e2.pb] at hc; simp at hc
  · obtain ⟨g, cur, e1, e2, e3, e4, e5⟩ := h.hal (add_ne e (Ne.symm a5))
    exact ⟨g, cur, e1, e2, (hb g (obj_lt e3) fun _ _ => e1).trans e3, e4, fun e => e5 (add_ne e (Ne.symm a6))⟩
  · obtain ⟨e1, e2⟩ := h.hs (add_ne e (Ne.symm a6))
    exact ⟨add_old e1, add_old e2⟩
/-- its own operations -/
theorem Tri.at_mv (h : Tri L c i B o m s mv nc fa cl al w) (hd : o + 3 < m ∧ m < s) : Tri (add L o) c i B o m s (.pointer (some ⟨c, 0, none⟩)) nc fa cl al w :=
  ⟨fun _ => rfl, fun e => h.hnc (add_ne e (by omega)), fun e => h.hfa (add_ne e (by omega)), fun e => h.hcl (add_ne e (by omega)),
   fun e => let ⟨g, cur, e1, e2, e3, e4, e5⟩ := h.hal (add_ne e (by omega)); ⟨g, cur, e1, e2, e3, e4, fun e => e5 (add_ne e (by omega))⟩,
   fun e => let ⟨e1, e2⟩ := h.hs (add_ne e (by omega)); ⟨add_old e1, add_old e2⟩⟩
theorem Tri.at_nc (h : Tri L c i B o m s mv nc fa cl al w) (hd : o + 3 < m ∧ m < s) : Tri (add L (o + 1)) c i B o m s mv (.pointer (some ⟨c, 0, none⟩)) fa cl al w :=
  ⟨fun e => h.hmv (add_ne e (by omega)), fun _ => rfl, fun e => h.hfa (add_ne e (by omega)), fun e => h.hcl (add_ne e (by omega)),
   fun e => let ⟨g, cur, e1, e2, e3, e4, e5⟩ := h.hal (add_ne e (by omega)); ⟨g, cur, e1, e2, e3, e4, fun e => e5 (add_ne e (by omega))⟩,
   fun e => let ⟨e1, e2⟩ := h.hs (add_ne e (by omega)); ⟨add_old e1, add_old e2⟩⟩
theorem Tri.at_fa (h : Tri L c i B o m s mv nc fa cl al w) (hd : o + 3 < m ∧ m < s) : Tri (add L (o + 2)) c i B o m s mv nc (.pointer (some ⟨c, i + 1, none⟩)) cl al w :=
  ⟨fun e => h.hmv (add_ne e (by omega)), fun e => h.hnc (add_ne e (by omega)), fun _ => rfl, fun e => h.hcl (add_ne e (by omega)),
   fun e => let ⟨g, cur, e1, e2, e3, e4, e5⟩ := h.hal (add_ne e (by omega)); ⟨g, cur, e1, e2, e3, e4, fun e => e5 (add_ne e (by omega))⟩,
   fun e => let ⟨e1, e2⟩ := h.hs (add_ne e (by omega)); ⟨add_old e1, add_old e2⟩⟩
theorem Tri.at_cl (h : Tri L c i B o m s mv nc fa cl al w) (hd : o + 3 < m ∧ m < s) (hn : L (o + 3) = false) {a b : Nat} (hf : Fld w' c i a b) (ha : B ≤ a) (hb : B ≤ b) (hw : Below w.heap.size w w') : Tri (add L (o + 3)) c i B o m s mv nc fa (.agg (fArr i a b)) al w' :=
  ⟨fun e => h.hmv (add_ne e (by omega)), fun e => h.hnc (add_ne e (by omega)), fun e => h.hfa (add_ne e (by omega)), fun _ => ⟨a, b, rfl, hf, ha, hb⟩,
   fun e => let ⟨g, cur, e1, e2, e3, e4, e5⟩ := h.hal (add_ne e (by omega)); ⟨g, cur, e1, e2, (hw.block g (obj_lt e3)).trans e3, e4, fun e => by
     have := (h.hs (add_ne e (by omega))).2
     rw [hn] at this
     cases this⟩,
   fun e => let ⟨e1, e2⟩ := h.hs (add_ne e (by omega)); ⟨add_old e1, add_old e2⟩⟩
theorem Tri.at_al (h : Tri L c i B o m s mv nc fa cl al w) (hd : o + 3 < m ∧ m < s) (hn : L m = false) (cs : Array Value) (hcs : cs.size = 3) (hB : B ≤ w.heap.size) : Tri (add L m) c i B o m s mv nc fa cl (.pointer (some ⟨w.heap.size, 0, none⟩)) (w.alloc (.cells cs 67)) :=
  ⟨fun e => h.hmv (add_ne e (by omega)), fun e => h.hnc (add_ne e (by omega)), fun e => h.hfa (add_ne e (by omega)),
   fun e => let ⟨a, b, e1, e2, e3⟩ := h.hcl (add_ne e (by omega)); ⟨a, b, e1, e2.below ((Below.refl _ _).alloc (Nat.le_refl _) _), e3⟩,
   fun e => ⟨_, cs, rfl, hB, heap_alloc_new w _, hcs, fun e => by
     have := (h.hs (add_ne e (by omega))).1
     rw [hn] at this
     cases this⟩,
   fun e => let ⟨e1, e2⟩ := h.hs (add_ne e (by omega)); ⟨add_old e1, add_old e2⟩⟩
theorem Tri.at_st {a b g : Nat} (h : Tri L c i B o m s mv nc fa (.agg (fArr i a b)) (.pointer (some ⟨g, 0, none⟩)) w) (hd : o + 3 < m ∧ m < s) (h1 : L (o + 3) = true) (h2 : L m = true) : Tri (add L s) c i B o m s mv nc fa (.agg (fArr i a b)) (.pointer (some ⟨g, 0, none⟩)) (w.setRow g (fArr i a b)) := by
  obtain ⟨g', cur, e1, e2, e3, e4, e5⟩ := h.hal h2
  obtain rfl : g = g' := by injection e1 with e1; injection e1 with e1; injection e1
  obtain ⟨a', b', f1, f2, f3⟩ := h.hcl h1
  refine ⟨fun e => h.hmv (add_ne e (by omega)), fun e => h.hnc (add_ne e (by omega)), fun e => h.hfa (add_ne e (by omega)), fun _ => ⟨a', b', f1, ⟨?_, ?_⟩, f3⟩, fun _ => ⟨g, fArr i a b, rfl, e2, setRow_heap _ _ _ _ _ _ e3, rfl, fun _ => rfl⟩, fun _ => ⟨add_old h2, add_old h1⟩⟩
  · refine (setRow_other _ _ _ _ ?_).trans f2.pa
    rintro rfl
    rw [f2.pa] at e3; unfold ptrT at e3; split at e3 <;> simp at e3
  · refine (setRow_other _ _ _ _ ?_).trans f2.pb
    rintro rfl
    rw [f2.pb] at e3; simp at e3
end
end Go.Proofs.Ytgcliallkfnhaaa
