/- What stays but for some blocks; things in memory that lie apart; rows of a call's own: kept, read, written, appended to. -/
import Derived.Test.YtflbggehgjllcaaDoorProg
import Derived.Test.YtflbggehgjllcaaDoorDN
import Derived.WalkKit
import Derived.Below
import Derived.Lib.Hide
import Derived.Outline
import Derived.OwnWalk
import Derived.IntWalk
import Derived.WalkSpells
import Derived.Deep.QuietTactic
import Derived.BigQuiet
import Derived.Deep.LoopGhost
import Derived.Deep.DeepCutAuto
import Derived.Deep.CutBlock
import Derived.Deep.RegionWith
import Derived.Deep.RegionHeld3
import Derived.Deep.RegionLaw
import Derived.StillTailTactics
import Derived.Laws.OwnMore
import Derived.Laws.AppendOwn
import Derived.Laws.StructEq
import Derived.Maps.OwnSet
import Derived.Maps.OwnOps
namespace Go.Proofs.YtflbggehgjllcaaDoor
open Go.RowKit
set_option linter.unusedVariables false

/-- but for F's blocks all is as it was -/
structure Kp (F : Nat → Prop) (w w' : World) : Prop where
  os : w'.os = w.os
  tape : w'.tape = w.tape
  output : w'.output = w.output
  size : w.heap.size ≤ w'.heap.size
  block : ∀ j, j < w.heap.size → ¬ F j → w'.heap[j]? = w.heap[j]?
theorem Kp.refl (F : Nat → Prop) (w : World) : Kp F w w := ⟨rfl, rfl, rfl, Nat.le_refl _, fun _ _ _ => rfl⟩
theorem Kp.trans {F : Nat → Prop} {a b c : World} (h : Kp F a b) (k : Kp F b c) : Kp F a c :=
  ⟨k.os.trans h.os, k.tape.trans h.tape, k.output.trans h.output, Nat.le_trans h.size k.size, fun j hj hF => (k.block j (Nat.lt_of_lt_of_le hj h.size) hF).trans (h.block j hj hF)⟩
theorem Kp.mono {F G : Nat → Prop} {w w' : World} (h : Kp F w w') (hF : ∀ j, j < w.heap.size → F j → G j) : Kp G w w' :=
  ⟨h.os, h.tape, h.output, h.size, fun j hj hG => h.block j hj fun hf => hG (hF j hj hf)⟩
/-- two steps, the second of which may turn what is new -/
theorem Kp.then {F G : Nat → Prop} {a b c : World} (h : Kp F a b) (k : Kp G b c) (hG : ∀ j, j < a.heap.size → G j → F j) : Kp F a c :=
  ⟨k.os.trans h.os, k.tape.trans h.tape, k.output.trans h.output, Nat.le_trans h.size k.size, fun j hj hF => (k.block j (Nat.lt_of_lt_of_le hj h.size) fun g => hF (hG j hj g)).trans (h.block j hj hF)⟩
theorem Kp.of_below {F : Nat → Prop} {w w' : World} (h : Below w.heap.size w w') : Kp F w w' := ⟨h.os, h.tape, h.output, h.size, fun j hj _ => h.block j hj⟩
theorem Kp.below {F : Nat → Prop} {w w' : World} {B : Nat} (h : Kp F w w') (hB : B ≤ w.heap.size) (hF : ∀ j, j < B → ¬ F j) : Below B w w' :=
  ⟨h.os, h.tape, h.output, h.size, fun j hj => h.block j (by omega) (hF j hj)⟩
theorem Kp.setCell {F : Nat → Prop} {a w : World} (h : Kp F a w) {p : Addr} (hp : F p.block ∨ a.heap.size ≤ p.block) (u : Value) : Kp F a (w.setCell p u) :=
  ⟨h.os, h.tape, h.output, by simpa using h.size, fun j hj hF => (Below.heap_setCell _ _ _ _ (by rintro rfl; rcases hp with hp | hp; exact hF hp; omega)).trans (h.block j hj hF)⟩
theorem Kp.alloc {F : Nat → Prop} {a w : World} (h : Kp F a w) (o : Obj) : Kp F a (w.alloc o) :=
  ⟨h.os, h.tape, h.output, by simp; have := h.size; omega, fun j hj hF => (Below.heap_alloc _ _ _ (Nat.lt_of_lt_of_le hj h.size)).trans (h.block j hj hF)⟩
theorem Kp.drewN {F : Nat → Prop} {a w : World} (h : Kp F a w) (n : Nat) : Kp F a (w.drewN n) := ⟨h.os, h.tape, h.output, h.size, h.block⟩
theorem Kp.drew {F : Nat → Prop} {a w : World} (h : Kp F a w) : Kp F a w.drew := ⟨h.os, h.tape, h.output, h.size, h.block⟩
theorem Kp.grown {F : Nat → Prop} {a w w' : World} {row : Option Nat} (h : Kp F a w) (hg : w.grownBy w' row) (hr : ∀ k, row = some k → F k ∨ a.heap.size ≤ k) : Kp F a w' :=
  ⟨hg.os.trans h.os, hg.tape.trans h.tape, hg.output.trans h.output, Nat.le_trans h.size hg.size, fun j hj hF =>
    (hg.block j (Nat.lt_of_lt_of_le hj h.size) (fun e => by rcases hr j e.symm with h1 | h1; exact hF h1; omega)).trans (h.block j hj hF)⟩
theorem Kp.cell {F : Nat → Prop} {w w' : World} (h : Kp F w w') {p : Addr} {v : Value} (hc : w.cell? p = some v) (hn : ¬ F p.block) : w'.cell? p = some v :=
  (World.cell?_of_block (w := w) (h.block p.block (World.block_lt_of_cell? w p hc) hn)).trans hc
theorem Kp.froz {F : Nat → Prop} {w w' : World} (h : Kp F w w') {p : Addr} (hp : p.block < w.heap.size) (hn : ¬ F p.block) : w'.frozen? p = w.frozen? p :=
  World.frozen?_of_block (w := w) (h.block p.block hp hn)

theorem obj_lt {w : World} {b : Nat} {o : Obj} (h : w.heap[b]? = some o) : b < w.heap.size := (Array.getElem?_eq_some_iff.1 h).1
theorem obj_cell {w : World} {b : Nat} {cur : Array Value} {T : TypeId} (h : w.heap[b]? = some (.cells cur T (0, 0))) {i : Nat} {v : Value} (hi : cur[i]? = some v) : w.cell? ⟨b, i, none⟩ = some v := by
  rw [cell_of_row w b i cur T (0, 0) h, hi]
theorem obj_free {w : World} {b : Nat} {cur : Array Value} {T : TypeId} (h : w.heap[b]? = some (.cells cur T (0, 0))) (i : Nat) : w.frozen? ⟨b, i, none⟩ = false := by simp [World.frozen?, h]
theorem obj_set {w : World} {b : Nat} {cur : Array Value} {T : TypeId} (h : w.heap[b]? = some (.cells cur T (0, 0))) (i : Nat) (v : Value) : (w.setCell ⟨b, i, none⟩ v).heap[b]? = some (.cells (cur.setIfInBounds i v) T (0, 0)) := by
  simp [World.setCell, Array.getElem?_modify, h]
theorem obj_other {w : World} {a : Addr} {k : Nat} (v : Value) (h : k ≠ a.block) : (w.setCell a v).heap[k]? = w.heap[k]? := Below.heap_setCell w a v k h

/-- a thing in memory, with its blocks -/
structure Live (X : (Nat → Prop) → World → Prop) : Prop where
  kept : ∀ {P : Nat → Prop} {w w' : World} {F : Nat → Prop}, X P w → Kp F w w' → (∀ j, j < w.heap.size → P j → ¬ F j) → X P w'
  weak : ∀ {P Q : Nat → Prop} {w : World}, X P w → (∀ j, j < w.heap.size → P j → Q j) → X Q w

/-- two things that lie apart, beside what stays -/
def Apart (G : Nat → Prop) (X Y : (Nat → Prop) → World → Prop) (w : World) : Prop :=
  ∃ PF RF : Nat → Prop, X PF w ∧ Y RF w ∧ (∀ j, PF j → ¬ RF j ∧ ¬ G j ∧ j < w.heap.size) ∧ (∀ j, RF j → ¬ G j ∧ j < w.heap.size)

theorem Apart.swap {G : Nat → Prop} {X Y : (Nat → Prop) → World → Prop} {w : World} (h : Apart G X Y w) : Apart G Y X w := by
  obtain ⟨PF, RF, hX, hY, h1, h2⟩ := h
  exact ⟨RF, PF, hY, hX, fun j hj => ⟨fun hp => (h1 j hp).1 hj, h2 j hj⟩, fun j hj => (h1 j hj).2⟩
/-- a call of the first one's -/
theorem Apart.call {α : Type} {G : Nat → Prop} {X Y : (Nat → Prop) → World → Prop} {X' : α → (Nat → Prop) → World → Prop} {φ : α → Ending → Prop} {w : World} {f : FuncId} {args : Array Value}
    (lX : Live X) (lX' : ∀ x, Live (X' x)) (lY : Live Y) (hG : ∀ j, G j → j < w.heap.size) (h : Apart G X Y w)
    (hc : ∀ P : Nat → Prop, X P w → (∀ i, w.heap.size ≤ i → P i) → Calls Tryd.prog f args w fun e w' => ∃ x, φ x e ∧ X' x P w' ∧ Kp P w w') :
    Calls Tryd.prog f args w fun e w' => ∃ x, φ x e ∧ Apart G (X' x) Y w' ∧ Kp (fun j => ¬ G j) w w' := by
  obtain ⟨PF, RF, hX, hY, h1, h2⟩ := h
  refine (hc (fun j => PF j ∨ w.heap.size ≤ j) (lX.weak hX fun j _ hj => .inl hj) (fun i hi => .inr hi)).mono ?_
  rintro e w' ⟨x, he, hx, hK⟩
  refine ⟨x, he, ⟨fun j => (PF j ∨ w.heap.size ≤ j) ∧ j < w'.heap.size, RF, (lX' x).weak hx fun j hl hj => ⟨hj, hl⟩, lY.kept hY hK fun j hl hr hp => ?_, fun j hj => ⟨fun hr => ?_, fun hg => ?_, hj.2⟩, fun j hj => ⟨(h2 j hj).1, Nat.lt_of_lt_of_le (h2 j hj).2 hK.size⟩⟩, hK.mono fun j hl hp hg => ?_⟩
  · rcases hp with hp | hp
    · exact (h1 j hp).1 hr
    · omega
  · rcases hj.1 with hp | hp
    · exact (h1 j hp).1 hr
    · have := (h2 j hr).2; omega
  · rcases hj.1 with hp | hp
    · exact (h1 j hp).2.1 hg
    · have := hG j hg; omega
  · rcases hp with hp | hp
    · exact (h1 j hp).2.1 hg
    · omega
/-- a call that only reads, or makes what is new -/
theorem Apart.below {G : Nat → Prop} {X Y : (Nat → Prop) → World → Prop} {w w' : World} (lX : Live X) (lY : Live Y) (h : Apart G X Y w) (hb : Below w.heap.size w w') : Apart G X Y w' := by
  obtain ⟨PF, RF, hX, hY, h1, h2⟩ := h
  have k := Kp.of_below (F := fun _ => False) hb
  exact ⟨PF, RF, lX.kept hX k (fun _ _ _ h => h), lY.kept hY k (fun _ _ _ h => h), fun j hj => ⟨(h1 j hj).1, (h1 j hj).2.1, Nat.lt_of_lt_of_le (h1 j hj).2.2 hb.size⟩, fun j hj => ⟨(h2 j hj).1, Nat.lt_of_lt_of_le (h2 j hj).2 hb.size⟩⟩
/-- more stays: what has been made since -/
theorem Apart.more {G G' : Nat → Prop} {X Y : (Nat → Prop) → World → Prop} {w w' : World} (lX : Live X) (lY : Live Y) (h : Apart G X Y w) (hb : Below w.heap.size w w') (hG : ∀ j, j < w.heap.size → G' j → G j) : Apart G' X Y w' := by
  obtain ⟨PF, RF, hX, hY, h1, h2⟩ := h
  have k := Kp.of_below (F := fun _ => False) hb
  exact ⟨PF, RF, lX.kept hX k (fun _ _ _ h => h), lY.kept hY k (fun _ _ _ h => h), fun j hj => ⟨(h1 j hj).1, fun hg => (h1 j hj).2.1 (hG j (h1 j hj).2.2 hg), Nat.lt_of_lt_of_le (h1 j hj).2.2 hb.size⟩, fun j hj => ⟨fun hg => (h2 j hj).1 (hG j (h2 j hj).2 hg), Nat.lt_of_lt_of_le (h2 j hj).2 hb.size⟩⟩
/-- what the first one is -/
theorem Apart.map {G : Nat → Prop} {X X' Y : (Nat → Prop) → World → Prop} {w : World} (h : Apart G X Y w) (f : ∀ P, X P w → X' P w) : Apart G X' Y w := by
  obtain ⟨PF, RF, hX, hY, r⟩ := h; exact ⟨PF, RF, f _ hX, hY, r⟩

/-- a call of the first one's that reads the second one -/
theorem Apart.call2 {α : Type} {G : Nat → Prop} {X Y : (Nat → Prop) → World → Prop} {X' : α → (Nat → Prop) → World → Prop} {φ : α → Ending → Prop} {w : World} {f : FuncId} {args : Array Value}
    (lX : Live X) (lX' : ∀ x, Live (X' x)) (lY : Live Y) (hG : ∀ j, G j → j < w.heap.size) (h : Apart G X Y w)
    (hc : ∀ P Q : Nat → Prop, X P w → Y Q w → (∀ i, w.heap.size ≤ i → P i) → (∀ j, Q j → ¬ P j) → Calls Tryd.prog f args w fun e w' => ∃ x, φ x e ∧ X' x P w' ∧ Kp P w w') :
    Calls Tryd.prog f args w fun e w' => ∃ x, φ x e ∧ Apart G (X' x) Y w' ∧ Kp (fun j => ¬ G j) w w' := by
  obtain ⟨PF, RF, hX, hY, h1, h2⟩ := h
  refine (hc (fun j => PF j ∨ w.heap.size ≤ j) RF (lX.weak hX fun j _ hj => .inl hj) hY (fun i hi => .inr hi) (fun j hr hp => by
    rcases hp with hp | hp
    · exact (h1 j hp).1 hr
    · have := (h2 j hr).2; omega)).mono ?_
  rintro e w' ⟨x, he, hx, hK⟩
  refine ⟨x, he, ⟨fun j => (PF j ∨ w.heap.size ≤ j) ∧ j < w'.heap.size, RF, (lX' x).weak hx fun j hl hj => ⟨hj, hl⟩, lY.kept hY hK fun j hl hr hp => ?_, fun j hj => ⟨fun hr => ?_, fun hg => ?_, hj.2⟩, fun j hj => ⟨(h2 j hj).1, Nat.lt_of_lt_of_le (h2 j hj).2 hK.size⟩⟩, hK.mono fun j hl hp hg => ?_⟩
  · rcases hp with hp | hp
    · exact (h1 j hp).1 hr
    · omega
  · rcases hj.1 with hp | hp
    · exact (h1 j hp).1 hr
    · have := (h2 j hr).2; omega
  · rcases hj.1 with hp | hp
    · exact (h1 j hp).2.1 hg
    · have := hG j hg; omega
  · rcases hp with hp | hp
    · exact (h1 j hp).2.1 hg
    · omega
theorem Apart.less {G G' : Nat → Prop} {X Y : (Nat → Prop) → World → Prop} {w : World} (h : Apart G' X Y w) (hG : ∀ j, G j → G' j) : Apart G X Y w := by
  obtain ⟨PF, RF, hX, hY, h1, h2⟩ := h
  exact ⟨PF, RF, hX, hY, fun j hj => ⟨(h1 j hj).1, fun hg => (h1 j hj).2.1 (hG j hg), (h1 j hj).2.2⟩, fun j hj => ⟨fun hg => (h2 j hj).1 (hG j hg), (h2 j hj).2⟩⟩

/-- a write to what stays -/
theorem Apart.kp {G F : Nat → Prop} {X Y : (Nat → Prop) → World → Prop} {w w' : World} (lX : Live X) (lY : Live Y) (h : Apart G X Y w) (hK : Kp F w w') (hF : ∀ j, F j → G j) : Apart G X Y w' := by
  obtain ⟨PF, RF, hX, hY, h1, h2⟩ := h
  exact ⟨PF, RF, lX.kept hX hK fun j _ hp hf => (h1 j hp).2.1 (hF j hf), lY.kept hY hK fun j _ hp hf => (h2 j hp).1 (hF j hf), fun j hj => ⟨(h1 j hj).1, (h1 j hj).2.1, Nat.lt_of_lt_of_le (h1 j hj).2.2 hK.size⟩, fun j hj => ⟨(h2 j hj).1, Nat.lt_of_lt_of_le (h2 j hj).2 hK.size⟩⟩

theorem enc_cell {w : World} {g j : Nat} {u : Value} : w.cell? ((⟨g, 0, none⟩ : Addr).add j) = some u → w.cell? ⟨g, j, none⟩ = some u := fun h => by
  have e : (⟨g, 0, none⟩ : Addr).add j = ⟨g, j, none⟩ := by unfold Addr.add; split <;> simp_all
  rwa [e] at h
section
variable {w w' : World} {T k n : Nat} {v : Value} {xs : List Value}
theorem orow_kept (h : w.ownsRow 0 T k v n xs) (hb : ∀ g, v.ownBlock = some g → w'.heap[g]? = w.heap[g]?) : w'.ownsRow 0 T k v n xs := by
  refine ⟨h.1, ?_⟩
  rcases h.2 with hn | ⟨g, cap, cur, rfl, hb0, hgg, rest⟩
  · exact .inl hn
  · exact .inr ⟨g, cap, cur, rfl, hb0, (hb g rfl).trans hgg, rest⟩
theorem orow_kp {F : Nat → Prop} (h : w.ownsRow 0 T k v n xs) (hK : Kp F w w') (hF : ∀ g, v.ownBlock = some g → ¬ F g) : w'.ownsRow 0 T k v n xs :=
  orow_kept h fun g hg => hK.block g (World.ownsRow.lt h g hg).2 (hF g hg)
theorem orow_shape (h : w.ownsRow 0 T k v n xs) : ∃ p cap, v = .slice p n cap ∧ n ≤ cap ∧ (∀ a, p = some a → a.spot = none) ∧ (0 < n → ∃ a, p = some a) := by
  rcases h.2 with ⟨rfl, h0⟩ | ⟨g, cap, cur, rfl, _, _, hn, _⟩
  · exact ⟨none, 0, by rw [h0], by omega, (fun a h => by cases h), fun h => by omega⟩
  · exact ⟨_, cap, rfl, hn, (fun a h => by cases h; rfl), fun _ => ⟨_, rfl⟩⟩
/-- a row that holds something -/
theorem orow_some (h : w.ownsRow 0 T k v n xs) (h0 : 0 < n) : ∃ (g cap : Nat) (cur : Array Value), v = .slice (some ⟨g, 0, none⟩) n cap ∧ w.heap[g]? = some (.cells cur T (0, 0)) ∧ n ≤ cap ∧ cap ≤ maxLen ∧ cur.size = cap * k ∧ ∀ (j : Nat) (u : Value), xs[j]? = some u → cur[j]? = some u := by
  rcases h.2 with ⟨rfl, h1⟩ | ⟨g, cap, cur, rfl, _, hg, hn, hc, hs, ht⟩
  · omega
  · refine ⟨g, cap, cur, rfl, hg, hn, hc, hs, fun j u hj => ?_⟩
    rw [← ht, List.getElem?_take] at hj
    split at hj
    · rwa [Array.getElem?_toList] at hj
    · cases hj
theorem orow_cell (h : w.ownsRow 0 T k v n xs) {g j : Nat} {u : Value} (hg : v.ownBlock = some g) (hj : xs[j]? = some u) : w.cell? ⟨g, j, none⟩ = some u :=
  enc_cell (World.ownsRow.cells h hg j u hj)
theorem orow_free (h : w.ownsRow 0 T k v n xs) {g : Nat} (hg : v.ownBlock = some g) (j : Nat) : w.frozen? ⟨g, j, none⟩ = false := by
  rcases h.2 with ⟨rfl, h1⟩ | ⟨g', cap, cur, rfl, _, hgg, _⟩
  · simp [Value.ownBlock] at hg
  · simp [Value.ownBlock] at hg
    subst hg
    exact obj_free hgg j
/-- a cell of it is another one -/
theorem orow_set (h : w.ownsRow 0 T k v n xs) {g j : Nat} (hg : v.ownBlock = some g) (hj : j < xs.length) (u : Value) : (w.setCell ⟨g, j, none⟩ u).ownsRow 0 T k v n (xs.set j u) := by
  obtain ⟨h1, h2⟩ := h
  refine ⟨by rw [List.length_set]; exact h1, ?_⟩
  rcases h2 with ⟨rfl, h3⟩ | ⟨g', cap, cur, rfl, hb, hgg, hn, hc, hs, ht⟩
  · simp [Value.ownBlock] at hg
  · simp [Value.ownBlock] at hg
    subst hg
    refine .inr ⟨g', cap, cur.setIfInBounds j u, rfl, hb, obj_set hgg j u, hn, hc, by simpa using hs, ?_⟩
    rw [← ht, Array.toList_setIfInBounds, List.take_set]
end
/-- one more is appended: where the row lies then -/
theorem app1_run (S T k bytes : Nat) (z : Value) (hS : Tryd.prog.underlying S = some (.slice T)) (hI : (Tryd.prog.info? T).map (fun i => (i.zero, i.size, i.bytes)) = some (some z, k, bytes)) (hk : z.cells.size = k) (hk0 : 0 < k) (hb : bytes ≤ 1000)
    (w : World) (v : Value) (n : Nat) (xs : List Value) (h : w.ownsRow 0 T k v n xs) (a : Addr) (news : List Value) (hl : news.length = k) (hx : ∀ j u, news[j]? = some u → w.cell? (a.add j) = some u) (h1 : ∀ u ∈ news, u.oneCell' = true) (hs : n + 1 ≤ 16777216) :
    ∃ v' w', (Builtin.append_ #[S, S] S #[v, .slice (some a) 1 1]).run Tryd.prog w = .ok v' w' ∧ w'.ownsRow 0 T k v' (n + 1) (xs ++ news) ∧ w.grownBy w' v.ownBlock ∧ (∀ g, v'.ownBlock = some g → v.ownBlock = some g ∨ w.heap.size ≤ g) := by
  obtain ⟨i, hi, hz0, hz1, hz2⟩ := info_parts hI
  have hby : (n + 1) * bytes ≤ 140737488355328 := Nat.le_trans (Nat.mul_le_mul hs hb) (by decide)
  obtain ⟨v', w', hr, ho, hg, _⟩ := run_append_own (P := Tryd.prog) w 0 S S T i z k bytes hS hi hz0 hz1 hz2 hk hk0 v n xs h a 1 1 news (by omega) hx h1 (by unfold maxLen; omega) hby (by omega)
  refine ⟨v', w', hr, ho, hg, fun g hv => ?_⟩
  rcases h.2 with ⟨rfl, h0⟩ | ⟨g', cap, cur, rfl, hb, hh, hn, hc, hcs, ht⟩
  · subst h0
    have hxs : xs = [] := List.eq_nil_of_length_eq_zero (by rw [h.1]; omega)
    subst hxs
    obtain ⟨v2, w2, hr2, ho2, _⟩ := run_append_own (P := Tryd.prog) w w.heap.size S S T i z k bytes hS hi hz0 hz1 hz2 hk hk0 (.slice none 0 0) 0 [] (World.ownsRow_nil w _ T k) a 1 1 news (by omega) hx h1 (by unfold maxLen; omega) (by omega) (by omega)
    rw [hr] at hr2
    injection hr2 with e1 e2
    subst e1; subst e2
    exact .inr (World.ownsRow.lt ho2 g hv).1
  · by_cases hroom : n + 1 ≤ cap
    · have hr2 := run_append_room (P := Tryd.prog) w S S T i hS hi g' n cap cur hh a 1 1 news (by rw [hz1]; omega) hx h1 hroom (by rw [hz1, hcs, hl]; have := Nat.mul_le_mul_right k hroom; rw [Nat.add_mul] at this; omega)
      rw [hr] at hr2
      injection hr2 with e1 e2
      subst e1
      exact .inl hv
    · have holds : ∀ j u, xs[j]? = some u → w.cell? ((⟨g', 0, none⟩ : Addr).add j) = some u := World.ownsRow.cells h (g := g') rfl
      have hr2 := run_append_grow (P := Tryd.prog) w S S T i z hS hi hz0 ⟨g', 0, none⟩ n cap xs (by rw [hz1]; exact h.1) holds a 1 1 news (by rw [hz1]; omega) hx (by omega) (by omega) (by rw [hz2]; exact growslice_fits (by omega) hby)
      rw [hr] at hr2
      injection hr2 with e1 e2
      subst e1
      simp [Value.ownBlock] at hv
      exact .inr (by omega)
theorem wpList_app1 (S T k bytes : Nat) (z : Value) (hS : Tryd.prog.underlying S = some (.slice T)) (hI : (Tryd.prog.info? T).map (fun i => (i.zero, i.size, i.bytes)) = some (some z, k, bytes)) (hk : z.cells.size = k) (hk0 : 0 < k) (hb : bytes ≤ 1000)
    {ops : Array Oper} {rest : List Oper} {o : Oper} {a : Act} {w : World} {Q : Exit → Act → World → Prop} (hgd : o.guard = none) (sl x : Operand) (hty : o.type = S)
    (ho : o.op = .call { callee := .builtin .append, args := #[sl, x], argTypes := #[S, S] })
    (v : Value) (n : Nat) (xs : List Value) (hs : a.eval sl = v) (hrow : w.ownsRow 0 T k v n xs) (b : Addr) (news : List Value) (hx : a.eval x = .slice (some b) 1 1) (hl : news.length = k) (hnew : ∀ j u, news[j]? = some u → w.cell? (b.add j) = some u) (h1 : ∀ u ∈ news, u.oneCell' = true) (hn : n + 1 ≤ 16777216)
    (h : ∀ v' w', w'.ownsRow 0 T k v' (n + 1) (xs ++ news) → w.grownBy w' v.ownBlock → (∀ g, v'.ownBlock = some g → v.ownBlock = some g ∨ w.heap.size ≤ g) → wpList Tryd.prog ops Q rest (a.put o.dst v') w') : wpList Tryd.prog ops Q (o :: rest) a w := by
  refine wpList_plain hgd fun K hK => ?_
  obtain ⟨v', w', hr, h2, h3, h4⟩ := app1_run S T k bytes z hS hI hk hk0 hb w v n xs hrow b news hl hnew h1 hn
  unfold Oper.wp execOp
  simp only [ho, hty, resolve, invoke, builtin, Sem.run_bind, Sem.run_pure, Result.andThen_ok, List.map_toArray, List.map_cons, List.map_nil, hs, hx, hr]
  exact hK _ _ (h v' w' h2 h3 h4)
theorem step_app {P : Program} {ops : Array Oper} {o : Oper} {a : Act} {w : World} {K : Act → World → Prop} {Q : Exit → Act → World → Prop} {E : Prop}
    (hg : o.guard = none) (s x : Operand) (t t' : TypeId) (hop : o.op = Op.call { callee := Callee.builtin Builtin.append, args := #[s, x], argTypes := #[t, t'] })
    (v y v' : Value) (w' : World) (hs : a.eval s = v) (hx : a.eval x = y) (hr : (Builtin.append_ #[t, t'] o.type #[v, y]).run P w = .ok v' w') (hK : K (a.put o.dst v') w') :
    if Region.wanted o (yielded ops a.tmps) = true then Oper.wp P o a w K Q else E := by
  have hw : Region.wanted o (yielded ops a.tmps) = true := by simp [Region.wanted, hg]
  rw [if_pos hw]
  unfold Oper.wp
  simp [execOp, hop, resolve, invoke, builtin, hs, hx, hr, Result.andThen]
  exact hK
/-- rows of amounts that are 0 -/
def zi (n : Nat) : Array Value := madeCells #[Value.int .i64 0] n
end Go.Proofs.YtflbggehgjllcaaDoor
