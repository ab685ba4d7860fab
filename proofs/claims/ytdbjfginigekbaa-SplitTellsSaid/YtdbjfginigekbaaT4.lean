/- Bigs in boxes and in rows; what leaves rows of digits alone. -/
import Derived.Test.YtdbjfginigekbaaT3
import Derived.Test.YtdbjfginigekbaaR7
namespace Go.Proofs.Ytdbjfginigekbaa
open Go.RowKit
set_option linter.unusedVariables false

/-- no block of ints has turned -/
def Keep3 (W W' : World) : Prop := ∀ (b : Nat) (cur : Array Value) (fr : Nat × Nat), W.heap[b]? = some (Obj.cells cur 3 fr) → W'.heap[b]? = some (Obj.cells cur 3 fr)
theorem Keep3.refl (W : World) : Keep3 W W := fun _ _ _ h => h
theorem Keep3.trans {a b c : World} (h : Keep3 a b) (k : Keep3 b c) : Keep3 a c := fun b cur fr e => k b cur fr (h b cur fr e)
theorem Keep3.below {W W' : World} (h : Below W.heap.size W W') : Keep3 W W' := fun b cur fr e => (h.block b (Array.getElem?_eq_some_iff.1 e).1).trans e
theorem Keep3.set {W : World} {a : Addr} (u : Value) (h : ∀ cur fr, W.heap[a.block]? ≠ some (.cells cur 3 fr)) : Keep3 W (W.setCell a u) := fun b cur fr e => by
  have hne : b ≠ a.block := fun hb => h cur fr (by rw [← hb]; exact e)
  exact (Below.heap_setCell W a u b hne).trans e
theorem Keep3.grown {W W' : World} {row : Option Nat} (hg : W.grownBy W' row) (h : ∀ k, row = some k → ∀ cur fr, W.heap[k]? ≠ some (.cells cur 3 fr)) : Keep3 W W' := fun b cur fr e => by
  refine (hg.block b (Array.getElem?_eq_some_iff.1 e).1 fun hr => ?_).trans e
  exact h b hr.symm cur fr e
theorem Keep3.drow {W W' : World} {p : Option Addr} {len : Nat} {ds : List Int} (h : Keep3 W W') (hd : DRow W p len ds) : DRow W' p len ds := by
  obtain ⟨h1, h2, h4⟩ := hd
  refine ⟨h1, h2, ?_⟩
  rcases h4 with h4 | ⟨b, off, e, ⟨cur, fr, hb⟩, hc⟩
  · exact .inl h4
  · have hb' := h b cur fr hb
    refine .inr ⟨b, off, e, ⟨cur, fr, hb'⟩, fun i hi => ?_⟩
    rw [World.cell?_of_block (w := W) (a := ⟨b, off + i, none⟩) (hb'.trans hb.symm)]
    exact hc i hi
theorem Keep3.isB {W W' : World} {v : Value} {L : Nat} {N : Int} (h : Keep3 W W') (hv : IsB W v L N) : IsB W' v L N := by
  obtain ⟨neg, p, len, cap, ds, h1, h2, h3⟩ := hv
  exact ⟨neg, p, len, cap, ds, h1, h.drow h2, h3⟩

/-- a Big in block b -/
def BigAt (W : World) (b L : Nat) (N : Int) (n : Bool) (p : Option Addr) (l c : Nat) : Prop :=
  W.heap[b]? = some (.cells #[.bool n, .slice p l c] 44 (0, 0)) ∧ IsB W (.agg #[.bool n, .slice p l c]) L N
theorem BigAt.lt {W : World} {b L : Nat} {N : Int} {n : Bool} {p : Option Addr} {l c : Nat} (h : BigAt W b L N n p l c) : b < W.heap.size := (Array.getElem?_eq_some_iff.1 h.1).1
theorem BigAt.kept {W W' : World} {b L : Nat} {N : Int} {n : Bool} {p : Option Addr} {l c : Nat} (h : BigAt W b L N n p l c) (hb : Below W.heap.size W W') : BigAt W' b L N n p l c :=
  ⟨(hb.block b h.lt).trans h.1, h.2.kept hb⟩
theorem BigAt.moved {W W' : World} {b L : Nat} {N : Int} {n : Bool} {p : Option Addr} {l c : Nat} (h : BigAt W b L N n p l c) (he : W'.heap[b]? = W.heap[b]?) (hk : Keep3 W W') : BigAt W' b L N n p l c := ⟨he.trans h.1, hk.isB h.2⟩
theorem BigAt.c0 {W : World} {b L : Nat} {N : Int} {n : Bool} {p : Option Addr} {l c : Nat} (h : BigAt W b L N n p l c) : W.cell? ⟨b, 0, none⟩ = some (.bool n) := by rw [cell_of_row W b 0 _ 44 (0, 0) h.1]; rfl
theorem BigAt.c1 {W : World} {b L : Nat} {N : Int} {n : Bool} {p : Option Addr} {l c : Nat} (h : BigAt W b L N n p l c) : W.cell? ⟨b, 1, none⟩ = some (.slice p l c) := by rw [cell_of_row W b 1 _ 44 (0, 0) h.1]; rfl
theorem BigAt.f {W : World} {b L : Nat} {N : Int} {n : Bool} {p : Option Addr} {l c i : Nat} (h : BigAt W b L N n p l c) : W.frozen? ⟨b, i, none⟩ = false := by have := h.1; simp [World.frozen?, this]
/-- a Big is laid into a block -/
theorem BigAt.put {W : World} {b L L' : Nat} {N N' : Int} {n n' : Bool} {p p' : Option Addr} {l c l' c' : Nat} (h : W.heap[b]? = some (.cells #[.bool n, .slice p l c] 44 (0, 0))) (hv : IsB W (.agg #[.bool n', .slice p' l' c']) L' N') :
    BigAt ((W.setCell ⟨b, 0, none⟩ (.bool n')).setCell ⟨b, 1, none⟩ (.slice p' l' c')) b L' N' n' p' l' c' ∧ Keep3 W ((W.setCell ⟨b, 0, none⟩ (.bool n')).setCell ⟨b, 1, none⟩ (.slice p' l' c')) ∧
      ∀ k, k ≠ b → ((W.setCell ⟨b, 0, none⟩ (.bool n')).setCell ⟨b, 1, none⟩ (.slice p' l' c')).heap[k]? = W.heap[k]? := by
  have hk : Keep3 W ((W.setCell ⟨b, 0, none⟩ (.bool n')).setCell ⟨b, 1, none⟩ (.slice p' l' c')) := by
    refine (Keep3.set _ fun cur fr e => ?_).trans (Keep3.set _ fun cur fr e => ?_)
    · rw [h] at e; cases e
    · simp [World.setCell, Array.getElem?_modify, h] at e
  refine ⟨⟨?_, hk.isB hv⟩, hk, fun k hne => ?_⟩
  · simp [World.setCell, Array.getElem?_modify, h]
  · rw [Below.heap_setCell _ _ _ k hne, Below.heap_setCell _ _ _ k hne]
/-- the two cells of a new Big -/
theorem BigAt.made (W : World) (n : Bool) (p : Option Addr) (l c : Nat) : (W.alloc (.cells #[.bool n, .slice p l c] 44)).heap[W.heap.size]? = some (.cells #[.bool n, .slice p l c] 44 (0, 0)) := heap_alloc_new W _

/-- a row of Bigs that grows -/
def Lefts (W : World) (B : Nat) (v : Value) (rs : List Int) (bs : List (Bool × Option Addr × Nat × Nat)) : Prop :=
  bs.length = rs.length ∧ W.ownsRow B 44 2 v rs.length (bs.flatMap fun x => [Value.bool x.1, Value.slice x.2.1 x.2.2.1 x.2.2.2]) ∧
  ∀ i x, bs[i]? = some x → IsB W (.agg #[.bool x.1, .slice x.2.1 x.2.2.1 x.2.2.2]) 20 (rs.getD i 0)
theorem Lefts.made (w : World) (B : Nat) (hB : B ≤ w.heap.size) : Lefts (w.alloc (.cells #[] 44)) B (.slice (some ⟨w.heap.size, 0, none⟩) 0 0) [] [] :=
  ⟨rfl, World.ownsRow_made w #[] 0 hB (by decide) (by simp), fun i x h => by simp at h⟩
theorem Lefts.moved {W W' : World} {B : Nat} {v : Value} {rs : List Int} {bs : List (Bool × Option Addr × Nat × Nat)} (h : Lefts W B v rs bs) (hk : Keep3 W W') (hb : ∀ k, v.ownBlock = some k → W'.heap[k]? = W.heap[k]?) : Lefts W' B v rs bs := by
  refine ⟨h.1, ⟨h.2.1.1, ?_⟩, fun i x hx => hk.isB (h.2.2 i x hx)⟩
  rcases h.2.1.2 with h0 | ⟨g, cap, cur, rfl, h1, h2, h3⟩
  · exact Or.inl h0
  · exact Or.inr ⟨g, cap, cur, rfl, h1, (hb g rfl).trans h2, h3⟩
theorem Lefts.kept {W W' : World} {B : Nat} {v : Value} {rs : List Int} {bs : List (Bool × Option Addr × Nat × Nat)} (h : Lefts W B v rs bs) (hb : Below W.heap.size W W') : Lefts W' B v rs bs :=
  h.moved (Keep3.below hb) fun k hk => hb.block k (World.ownsRow.lt h.2.1 k hk).2
theorem Lefts.not3 {W : World} {B : Nat} {v : Value} {rs : List Int} {bs : List (Bool × Option Addr × Nat × Nat)} (h : Lefts W B v rs bs) : ∀ k, v.ownBlock = some k → ∃ cur, W.heap[k]? = some (.cells cur 44 (0, 0)) := by
  intro k hk
  rcases h.2.1.2 with ⟨rfl, _⟩ | ⟨g, cap, cur, rfl, h1, h2, h3⟩
  · cases hk
  · simp [Value.ownBlock] at hk; subst hk; exact ⟨cur, h2⟩
theorem Grows.is2 {W : World} {B : Nat} {v : Value} {xs : List Int} (h : Grows W B v xs) : ∀ k, v.ownBlock = some k → ∃ cur, W.heap[k]? = some (.cells cur 2 (0, 0)) := by
  intro k hk
  rcases h.2 with ⟨rfl, _⟩ | ⟨g, cap, cur, rfl, h1, h2, h3⟩
  · cases hk
  · simp [Value.ownBlock] at hk; subst hk; exact ⟨cur, h2⟩
theorem flat_two (f g : Bool × Option Addr × Nat × Nat → Value) : ∀ (bs : List (Bool × Option Addr × Nat × Nat)) (i : Nat) (x : Bool × Option Addr × Nat × Nat), bs[i]? = some x →
    (bs.flatMap fun x => [f x, g x])[i * 2]? = some (f x) ∧ (bs.flatMap fun x => [f x, g x])[i * 2 + 1]? = some (g x) := by
  intro bs
  induction bs with
  | nil => intro i x h; simp at h
  | cons b bs ih =>
    intro i x h
    cases i with
    | zero => simp at h; subst h; simp
    | succ i =>
      have := ih i x (by simpa using h)
      rw [show (i + 1) * 2 = i * 2 + 1 + 1 from by omega]
      simpa using this
/-- a Big of the row -/
theorem Lefts.at {W : World} {B g cap i : Nat} {rs : List Int} {bs : List (Bool × Option Addr × Nat × Nat)} (h : Lefts W B (.slice (some ⟨g, 0, none⟩) rs.length cap) rs bs) (hi : i < rs.length) :
    ∃ n p l c, W.cell? ⟨g, i * 2, none⟩ = some (.bool n) ∧ W.cell? ⟨g, i * 2 + 1, none⟩ = some (.slice p l c) ∧ IsB W (.agg #[.bool n, .slice p l c]) 20 (rs.getD i 0) := by
  have hb : bs[i]? = some (bs[i]'(by rw [h.1]; exact hi)) := List.getElem?_eq_getElem _
  generalize bs[i]'(by rw [h.1]; exact hi) = x at hb
  obtain ⟨n, p, l, c⟩ := x
  obtain ⟨h1, h2⟩ := flat_two (fun x => Value.bool x.1) (fun x => Value.slice x.2.1 x.2.2.1 x.2.2.2) bs i _ hb
  refine ⟨n, p, l, c, ?_, ?_, h.2.2 i _ hb⟩
  · rw [World.ownsRow.cellAt h.2.1 (i * 2) (by omega)]; exact h1
  · rw [World.ownsRow.cellAt h.2.1 (i * 2 + 1) (by omega)]; exact h2
/-- one Big more -/
theorem Lefts.more {W : World} {B : Nat} {v : Value} {rs : List Int} {bs : List (Bool × Option Addr × Nat × Nat)} (h : Lefts W B v rs bs) (hB : B ≤ W.heap.size) (hn : rs.length ≤ 1000000) (n : Bool) (p : Option Addr) (l c : Nat) (r : Int)
    (hv : IsB W (.agg #[.bool n, .slice p l c]) 20 r) :
    ∃ g cc w', (Builtin.append_ #[47, 47] 47 #[v, .slice (some ⟨W.heap.size, 0, none⟩) 1 1]).run Try.prog (W.alloc (.cells #[.bool n, .slice p l c] 44)) = .ok (.slice (some ⟨g, 0, none⟩) (rs.length + 1) cc) w' ∧
      Lefts w' B (.slice (some ⟨g, 0, none⟩) (rs.length + 1) cc) (rs ++ [r]) (bs ++ [(n, p, l, c)]) ∧ (W.alloc (.cells #[.bool n, .slice p l c] 44)).grownBy w' v.ownBlock ∧ (v.ownBlock = some g ∨ W.heap.size < g) ∧ Keep3 W w' ∧ Below B W w' := by
  obtain ⟨g, cc, w', h1, h2, h3, h4⟩ := append_row 47 44 (.agg #[.bool false, .slice none 0 0]) 2 32 Try.underlying47 info_44 rfl (by decide) (by decide) W B v rs.length _ h.2.1 hB hn #[.bool n, .slice p l c] rfl (by simp; exact ⟨rfl, rfl⟩)
  have hal : Below W.heap.size W (W.alloc (.cells #[.bool n, .slice p l c] 44)) := (Below.refl _ _).alloc (Nat.le_refl _) _
  have hk : Keep3 W w' := (Keep3.below hal).trans (Keep3.grown h3 fun k hk cur fr e => by
    obtain ⟨cur', e'⟩ := h.not3 k hk
    have := hal.block k (World.ownsRow.lt h.2.1 k hk).2
    rw [this, e'] at e; cases e)
  refine ⟨g, cc, w', h1, ⟨by simp [h.1], ?_, fun i x hx => ?_⟩, h3, h4, hk, ((Below.refl _ _).alloc hB _).grown h3 (by simp; omega) (fun k hk => (World.ownsRow.lt h.2.1 k hk).1)⟩
  · rw [List.length_append, List.flatMap_append]
    exact h2
  · by_cases hi : i < bs.length
    · rw [List.getElem?_append_left hi] at hx
      have := hk.isB (h.2.2 i x hx)
      rwa [List.getD_eq_getElem?_getD, List.getElem?_append_left (by rw [← h.1]; exact hi), ← List.getD_eq_getElem?_getD]
    · rw [List.getElem?_append_right (by omega)] at hx
      have hib : i = bs.length := by
        have := (List.getElem?_eq_some_iff.1 hx).1
        simp at this; omega
      subst hib
      simp at hx
      subst hx
      have hle := h.1
      rw [List.getD_eq_getElem?_getD, List.getElem?_append_right (by omega)]
      have : bs.length - rs.length = 0 := by rw [h.1]; omega
      rw [this]
      exact hk.isB hv

end Go.Proofs.Ytdbjfginigekbaa
