/- A region that draws its order: what every order keeps is there at its end. -/
import Derived.Test.YtflbggehgjllcaaDoorDA
namespace Go.Proofs.YtflbggehgjllcaaDoor
open Go.RowKit
set_option linter.unusedVariables false

/-- the operations that stand ahead of number i in every order -/
def deps (md : Region.Mode) (ops : Array Oper) (i : Nat) : List Nat := ((ops[i]?).map fun o => (o.after.toList.filter (Region.binds md)).map (·.on)).getD []
theorem ready_mem {md : Region.Mode} {ops : Array Oper} {listed : Array Bool} {i : Nat} : i ∈ Region.ready md ops listed ↔ i < ops.size ∧ listed.getD i true = false ∧ ∀ j ∈ deps md ops i, listed.getD j false = true := by
  unfold Region.ready deps
  rw [List.mem_filter, List.mem_range]
  constructor
  · rintro ⟨h1, h2⟩
    rw [Bool.and_eq_true] at h2
    obtain ⟨h2, h3⟩ := h2
    refine ⟨h1, by simpa using h2, fun j hj => ?_⟩
    rw [Array.getElem?_eq_getElem h1] at h3 hj
    simp only [Option.map_some, Option.getD_some] at h3 hj
    obtain ⟨e, he, rfl⟩ := List.mem_map.1 hj
    obtain ⟨he1, he2⟩ := List.mem_filter.1 he
    rw [Array.all_eq_true'] at h3
    have := h3 e (by simpa using he1)
    rw [he2] at this
    simpa using this
  · rintro ⟨h1, h2, h3⟩
    refine ⟨h1, ?_⟩
    rw [Array.getElem?_eq_getElem h1] at h3 ⊢
    simp only [Option.map_some, Option.getD_some] at h3 ⊢
    rw [h2]
    simp only [Bool.not_false, Bool.true_and]
    rw [Array.all_eq_true']
    intro e he
    cases hb : Region.binds md e with
    | false => rfl
    | true =>
      have := h3 e.on (List.mem_map.2 ⟨e, List.mem_filter.2 ⟨by simpa using he, hb⟩, rfl⟩)
      simpa using this
/-- how many of the first n are not listed -/
def lft (listed : Array Bool) : Nat → Nat
  | 0 => 0
  | n + 1 => lft listed n + (if listed.getD n true = false then 1 else 0)
theorem lft_le (listed : Array Bool) : ∀ n, lft listed n ≤ n
  | 0 => Nat.le_refl _
  | n + 1 => by unfold lft; have := lft_le listed n; split <;> omega
theorem set_true {listed : Array Bool} {i j : Nat} : (listed.setIfInBounds i true).getD j true = if j = i then true else listed.getD j true := by
  simp only [Array.getD_eq_getD_getElem?, Array.getElem?_setIfInBounds]
  split
  · rename_i h; subst h; split <;> simp_all
  · rename_i h; rw [if_neg (Ne.symm h)]
theorem set_false {listed : Array Bool} {i j : Nat} (h : (listed.setIfInBounds i true).getD j false = true) : listed.getD j false = true ∨ j = i := by
  simp only [Array.getD_eq_getD_getElem?, Array.getElem?_setIfInBounds] at h ⊢
  split at h
  · rename_i e; exact .inr e.symm
  · exact .inl h
theorem lft_set {listed : Array Bool} {i : Nat} (h : listed.getD i true = false) : ∀ n, lft (listed.setIfInBounds i true) n + (if i < n then 1 else 0) = lft listed n
  | 0 => rfl
  | n + 1 => by
    have := lft_set h n
    unfold lft
    rw [set_true]
    by_cases e : n = i
    · subst e
      rw [if_pos rfl, if_pos (by omega : n < n + 1), if_pos h]
      rw [if_neg (by omega : ¬ n < n)] at this
      simp; omega
    · rw [if_neg e]
      by_cases e2 : i < n
      · rw [if_pos (by omega : i < n + 1)]
        rw [if_pos e2] at this
        omega
      · rw [if_neg (by omega : ¬ i < n + 1)]
        rw [if_neg e2] at this
        omega
theorem lft_pos {listed : Array Bool} {i n : Nat} (h : listed.getD i true = false) (hi : i < n) : 0 < lft listed n := by
  have := lft_set h n
  rw [if_pos hi] at this
  omega
theorem all_listed {md : Region.Mode} {ops : Array Oper} {listed : Array Bool} (hs : listed.size = ops.size) (hd : ((List.range ops.size).all fun i => (deps md ops i).all (· < i)) = true) (hr : Region.ready md ops listed = []) :
    ∀ i, i < ops.size → listed.getD i false = true := by
  intro i
  induction i using Nat.strongRecOn with
  | _ i ih =>
    intro hi
    cases h : listed.getD i false with
    | true => rfl
    | false =>
      exfalso
      have h2 : listed.getD i true = false := by
        simp only [Array.getD_eq_getD_getElem?, Array.getElem?_eq_getElem (show i < listed.size by omega), Option.getD_some] at h ⊢
        exact h
      have : i ∈ Region.ready md ops listed := ready_mem.2 ⟨hi, h2, fun j hj => by
        have hdi := List.all_eq_true.1 (List.all_eq_true.1 hd i (List.mem_range.2 hi)) j hj
        have hji : j < i := by simpa using hdi
        exact ih j hji (by omega)⟩
      rw [hr] at this
      cases this
/-- one more is listed -/
def add (L : Nat → Bool) (i : Nat) : Nat → Bool := fun j => L j || decide (j = i)
theorem add_iff {L : Nat → Bool} {i j : Nat} : add L i j = true ↔ L j = true ∨ j = i := by unfold add; simp
theorem set_add {listed : Array Bool} {i : Nat} (hi : i < listed.size) : (fun j => (listed.setIfInBounds i true).getD j false) = add (fun j => listed.getD j false) i := by
  funext j
  unfold add
  simp only [Array.getD_eq_getD_getElem?, Array.getElem?_setIfInBounds]
  by_cases e : i = j
  · subst e; simp [hi]
  · rw [if_neg e]; simp [Ne.symm e]
theorem wpAny_keeps {P : Program} {md : Region.Mode} {ops : Array Oper} {Q : Exit → Act → World → Prop} (I : (Nat → Bool) → Act → World → Prop)
    (hd : ((List.range ops.size).all fun i => (deps md ops i).all (· < i)) = true)
    (hstep : ∀ L a w i, i < ops.size → L i = false → I L a w → (∀ j ∈ deps md ops i, L j = true) → wpOp P ops Q i (fun a' w' => I (add L i) a' w') a w)
    (hend : ∀ L a w, I L a w → (∀ i, i < ops.size → L i = true) → Q .normal a w) :
    ∀ fuel listed a w, listed.size = ops.size → lft listed ops.size ≤ fuel → I (fun j => listed.getD j false) a w → wpAny P md ops Q fuel listed a w := by
  intro fuel
  induction fuel with
  | zero =>
    intro listed a w hs hf hI
    have hr : Region.ready md ops listed = [] := by
      cases h : Region.ready md ops listed with
      | nil => rfl
      | cons i r =>
        obtain ⟨h1, h2, _⟩ := ready_mem.1 (show i ∈ Region.ready md ops listed by rw [h]; exact List.mem_cons_self ..)
        have := lft_pos h2 h1
        omega
    exact ⟨hr, hend _ _ _ hI (all_listed hs hd hr)⟩
  | succ fuel ih =>
    intro listed a w hs hf hI
    refine ⟨fun hr => hend _ _ _ hI (all_listed hs hd hr), fun i hi => ?_⟩
    obtain ⟨h1, h2, h3⟩ := ready_mem.1 hi
    refine wpOp_mono (fun a' w' h => ?_) (hstep _ a w i h1 (by
      simp only [Array.getD_eq_getD_getElem?, Array.getElem?_eq_getElem (show i < listed.size by omega), Option.getD_some] at h2 ⊢
      exact h2) hI h3)
    refine ih _ a' w' (by simpa using hs) ?_ (by rw [set_add (by omega)]; exact h)
    have := lft_set h2 ops.size
    rw [if_pos h1] at this
    omega
theorem wp_region_keeps {P : Program} {id : Nat} {ops : Array Oper} {Q : Exit → Act → World → Prop} {a : Act} {w : World} (hm : P.follows .mixedOrders = true) (I : (Nat → Bool) → Act → World → Prop)
    (hd : ((List.range ops.size).all fun i => (deps .any ops i).all (· < i)) = true)
    (hbeg : I (fun _ => false) a w.drew)
    (hstep : ∀ L a w i, i < ops.size → L i = false → I L a w → (∀ j ∈ deps .any ops i, L j = true) → wpOp P ops Q i (fun a' w' => I (add L i) a' w') a w)
    (hend : ∀ L a w, I L a w → (∀ i, i < ops.size → L i = true) → Q .normal a w) : (Code.region id ops true).wp P Q a w := by
  refine wp_region_any hm ?_
  refine wpAny_keeps I hd hstep hend _ _ _ _ (by simp) (lft_le _ _) ?_
  have e : (fun j => (Array.replicate ops.size false).getD j false) = fun _ => false := by
    funext j
    simp [Array.getElem?_replicate]
    split <;> simp
  rw [e]
  exact hbeg

theorem add_ne {L : Nat → Bool} {n j : Nat} (h : add L n j = true) (hj : j ≠ n) : L j = true := (add_iff.1 h).resolve_right hj
theorem add_old {L : Nat → Bool} {n j : Nat} (h : L j = true) : add L n j = true := add_iff.2 (.inl h)
/-- what every order keeps, and each operation's forerunners are listed -/
theorem wp_region_closed {P : Program} {id : Nat} {ops : Array Oper} {Q : Exit → Act → World → Prop} {a : Act} {w : World} (hm : P.follows .mixedOrders = true) (I : (Nat → Bool) → Act → World → Prop)
    (hd : ((List.range ops.size).all fun i => (deps .any ops i).all (· < i)) = true)
    (hbeg : I (fun _ => false) a w.drew)
    (hstep : ∀ L a w i, i < ops.size → L i = false → I L a w → (∀ j ∈ deps .any ops i, L j = true) → (∀ i, L i = true → ∀ j ∈ deps .any ops i, L j = true) → wpOp P ops Q i (fun a' w' => I (add L i) a' w') a w)
    (hend : ∀ L a w, I L a w → (∀ i, i < ops.size → L i = true) → Q .normal a w) : (Code.region id ops true).wp P Q a w := by
  refine wp_region_keeps hm (fun L a w => (∀ i, L i = true → ∀ j ∈ deps .any ops i, L j = true) ∧ I L a w) hd ⟨nofun, hbeg⟩ (fun L a w i h1 h2 h3 h4 => ?_) (fun L a w h => hend L a w h.2)
  refine wpOp_mono (fun a' w' h => ⟨fun k hk j hj => ?_, h⟩) (hstep L a w i h1 h2 h3.2 h4 h3.1)
  rcases add_iff.1 hk with hk | rfl
  · exact add_old (h3.1 k hk j hj)
  · exact add_old (h4 j hj)
end Go.Proofs.YtflbggehgjllcaaDoor
