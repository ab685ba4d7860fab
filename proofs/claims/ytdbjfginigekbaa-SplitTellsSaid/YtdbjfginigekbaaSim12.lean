/-
  slices.SortFunc by the method value: the places are put in order. Conditions: the row of places, and the row that it reads, hold their cells, and are two.
-/
import Derived.Test.YtdbjfginigekbaaSim11
namespace Go.Proofs.Ytdbjfginigekbaa
open Go Go.Shelf Go.RowKit Go.Lib Go.Sort

theorem ahead_lt (ls : Nat → Int) (a b : Nat) : aheadOf ls a b < 0 ↔ ls b < ls a ∨ (ls b = ls a ∧ a < b) := by
  unfold aheadOf Lib.compareInt
  by_cases h1 : ls b < ls a <;> by_cases h2 : ls b > ls a <;> by_cases h4 : (a : Int) < b <;> by_cases h5 : (a : Int) > b <;> simp only [h1, h2, h4, h5, if_true, if_false, ne_eq] <;> simp <;> omega

def cfOf (ls : Nat → Int) (m : Nat) (a b : Fin (m + 1)) : Int := aheadOf ls a b
def encP (m : Nat) (a : Fin (m + 1)) : Value := .int .i64 ((a : Nat) : Int)

theorem ltOf_cf (ls : Nat → Int) (m : Nat) (a b : Fin (m + 1)) : ltOf (cfOf ls m) a b = true ↔ ls b < ls a ∨ (ls b = ls a ∧ a < b) := by
  unfold ltOf cfOf
  rw [decide_eq_true_iff, ahead_lt]
  exact Iff.rfl

theorem ltOf_cf_false (ls : Nat → Int) (m : Nat) (a b : Fin (m + 1)) : ltOf (cfOf ls m) a b = false ↔ ¬ (ls b < ls a ∨ (ls b = ls a ∧ a < b)) := by
  rw [← ltOf_cf]; simp

theorem swo_cf (ls : Nat → Int) (m : Nat) : SWO (ltOf (cfOf ls m)) where
  irrefl x := by rw [ltOf_cf_false]; omega
  trans x y z h1 h2 := by rw [ltOf_cf] at *; omega
  ntrans x y z h1 h2 := by rw [ltOf_cf_false] at *; omega

theorem args_rt (s lv : Value) (n : Nat) : RT (famF 37) (V2 84 lv) (V1 38 lv) (#[s, V2 84 lv] ++ Array.replicate n undef) (#[s, V1 38 lv] ++ Array.replicate n undef) := by
  refine ⟨by simp, fun i => ?_⟩
  match i with
  | 0 =>
    rw [Array.getElem?_append_left (by show 0 < 2; omega), Array.getElem?_append_left (by show 0 < 2; omega)]
    exact ⟨fun _ => rfl, fun h => absurd h (by decide)⟩
  | 1 =>
    rw [Array.getElem?_append_left (by show 1 < 2; omega), Array.getElem?_append_left (by show 1 < 2; omega)]
    exact ⟨fun h => absurd h (by decide), fun _ => Or.inr ⟨rfl, rfl⟩⟩
  | i + 2 =>
    rw [Array.getElem?_append_right (by show 2 ≤ i + 2; omega), Array.getElem?_append_right (by show 2 ≤ i + 2; omega)]
    refine ⟨fun _ => rfl, fun _ => Or.inl ⟨rfl, fun v hv => ?_⟩⟩
    rw [Array.getElem?_replicate] at hv
    split at hv
    · cases hv; rfl
    · cases hv

theorem cell_sortWorld {α : Type} [Inhabited α] (enc : α → Value) (w : World) (blk off m : Nat) (dk : Array α) (os : Array Obj) (a : Addr) (hne : a.block ≠ blk) (hlt : a.block < w.heap.size) :
    (sortWorld enc w blk off m dk os).cell? a = w.cell? a := by
  unfold sortWorld
  rw [cell?_grow _ _ _ (by simpa [putRow, mapBlock, Sort.ahead] using hlt), cell?_putRow_other _ _ _ _ _ _ (Or.inl hne)]
  rfl

theorem eg84 : ∀ args w, (callFunc 84 args).run prog2 w = .ok (.enter 84 args) w := fun args w => callFunc_enter (p := prog2) (fn := gfn) (c := gbody 38) funcs2_last rfl sit.hNn args w

theorem cmp_places (ls : Nat → Int) (m lb lo n c blk off sz : Nat) (w : World) (hn : n = m + 1) (hm : n < 4611686018427387904)
    (hl : ∀ i, i < n → w.cell? ⟨lb, lo + i, none⟩ = some (.int .i64 (ls i))) (hlb : lb < w.heap.size) (hne : lb ≠ blk) :
    CmpLays1 prog2 84 #[.slice (some ⟨lb, lo, none⟩) n c] (encP m) (cfOf ls m) blk off sz w := by
  intro M os dk _ x y
  have hx : (x : Nat) < n := by omega
  have hy : (y : Nat) < n := by omega
  have c1 : (sortWorld (encP m) w blk off M dk os).cell? ⟨lb, lo + (x : Nat), none⟩ = some (.int .i64 (ls x)) := by rw [cell_sortWorld _ _ _ _ _ _ _ _ hne hlb]; exact hl _ hx
  have c2 : (sortWorld (encP m) w blk off M dk os).cell? ⟨lb, lo + (y : Nat), none⟩ = some (.int .i64 (ls y)) := by rw [cell_sortWorld _ _ _ _ _ _ _ _ hne hlb]; exact hl _ hy
  refine (closure2 ls lb lo n c x y (sortWorld (encP m) w blk off M dk os) hx hy hm c1 c2).mono ?_
  rintro e w' ⟨he, q, hq⟩
  exact ⟨he, q, #[], by rw [hq, grow_empty]⟩

/-- What the sort leaves behind. -/
def Sorts (ls : Nat → Int) (m blk off : Nat) (d : Array (Fin (m + 1))) (w : World) (e : Ending) (w' : World) : Prop :=
  e = .returned (.tuple #[]) ∧ ∃ d' N os, PermIn 0 d.size d d' ∧ SortedIn (ltOf (cfOf ls m)) 0 d.size d' ∧ w' = sortWorld (encP m) w blk off N d' os

theorem sort_places2 (ls : Nat → Int) (m lb lo n c blk off cap : Nat) (d : Array (Fin (m + 1))) (w : World) (hn : n = m + 1) (hm : n < 4611686018427387904) (hd : d.size < 4611686018427387904)
    (hl : ∀ i, i < n → w.cell? ⟨lb, lo + i, none⟩ = some (.int .i64 (ls i))) (hlb : lb < w.heap.size) (hne : lb ≠ blk) (hH : Holds (encP m) w blk off d) (hblk : blk < w.heap.size) :
    Calls prog2 37 #[.slice (some ⟨blk, off, none⟩) d.size cap, .func (.func 84) #[] #[.slice (some ⟨lb, lo, none⟩) n c]] w (Sorts ls m blk off d w) :=
  Any.slices_SortFunc (P := prog2) sortL (encP m) (fun _ => rfl) (cfOf ls m) (swo_cf ls m) 84 #[.slice (some ⟨lb, lo, none⟩) n c] blk off cap d w eg84 (cmp_places ls m lb lo n c blk off d.size w hn hm hl hlb hne) hH hblk hd

theorem prog_eq : (⟨Try.progTables, Try.funcs⟩ : Program) = Try.prog := rfl
theorem inFam37 : inFam 37 = true := by kernel_rfl

theorem sort_places1 (s lv : Value) (w : World) (R : Ending → World → Prop) (hR : ∀ e w', R e w' → ∃ v, e = .returned v) (h : Calls prog2 37 #[s, .func (.func 84) #[] #[lv]] w R) :
    Calls Try.prog 37 #[s, .func (.func 38) #[lv] #[]] w R := by
  rw [← prog_eq]
  exact calls_swap sit inFam37 (l := lv) (args2 := #[s, V2 84 lv]) (args1 := #[s, V1 38 lv]) rfl (fun n => args_rt _ _ n) hR h

theorem sort_places (ls : Nat → Int) (m lb lo n c blk off cap : Nat) (d : Array (Fin (m + 1))) (w : World) (hn : n = m + 1) (hm : n < 4611686018427387904) (hd : d.size < 4611686018427387904)
    (hl : ∀ i, i < n → w.cell? ⟨lb, lo + i, none⟩ = some (.int .i64 (ls i))) (hlb : lb < w.heap.size) (hne : lb ≠ blk) (hH : Holds (encP m) w blk off d) (hblk : blk < w.heap.size) :
    Calls Try.prog 37 #[.slice (some ⟨blk, off, none⟩) d.size cap, .func (.func 38) #[.slice (some ⟨lb, lo, none⟩) n c] #[]] w (Sorts ls m blk off d w) :=
  sort_places1 _ _ w _ (fun _ _ h => ⟨_, h.1⟩) (sort_places2 ls m lb lo n c blk off cap d w hn hm hd hl hlb hne hH hblk)

#print axioms sort_places
end Go.Proofs.Ytdbjfginigekbaa
