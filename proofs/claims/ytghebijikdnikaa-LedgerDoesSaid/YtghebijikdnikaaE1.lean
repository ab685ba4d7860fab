/- Disks in memory: the program's (a block of eleven cells, and a row of bytes a file) and the reference's (a block of eleven cells). -/
import Derived.Test.YtghebijikdnikaaProg
import Derived.Test.YtghebijikdnikaaE0
import Derived.Test.YtghebijikdnikaaK5
import Derived.WalkKit
import Derived.Below
import Derived.Lib.Hide
import Derived.Outline
import Derived.OwnWalk
import Derived.IntWalk
import Derived.WalkSpells
import Derived.Deep.QuietTactic
import Derived.BigQuiet
import Derived.Deep.LoopGhost
import Derived.Deep.DeepCutAuto
import Derived.Deep.CutBlock
import Derived.Deep.RegionWith
import Derived.Deep.RegionHeld3
import Derived.StillTailTactics
import Derived.Lib.AppendStr
import Derived.Lib.UnsafeStr
import Derived.Laws.IdiomStrings
import Derived.Laws.BytesArg
import Derived.Laws.OwnMore
namespace Go.Proofs.Ytghebijikdnikaa
open Go.RowKit
set_option linter.unusedVariables false

theorem sv_bl (s : ByteArray) : sv (bl s) = .string s := by unfold sv; rw [mk_bl]

/-- but for F's blocks all is as it was -/
structure Kp (F : Nat → Prop) (w w' : World) : Prop where
  os : w'.os = w.os
  tape : w'.tape = w.tape
  output : w'.output = w.output
  size : w.heap.size ≤ w'.heap.size
  block : ∀ j, j < w.heap.size → ¬ F j → w'.heap[j]? = w.heap[j]?
theorem Kp.refl (F : Nat → Prop) (w : World) : Kp F w w := ⟨rfl, rfl, rfl, Nat.le_refl _, fun _ _ _ => rfl⟩
theorem Kp.trans {F : Nat → Prop} {a b c : World} (h : Kp F a b) (k : Kp F b c) : Kp F a c :=
  ⟨k.os.trans h.os, k.tape.trans h.tape, k.output.trans h.output, Nat.le_trans h.size k.size, fun j hj hF => (k.block j (Nat.lt_of_lt_of_le hj h.size) hF).trans (h.block j hj hF)⟩
theorem Kp.mono {F G : Nat → Prop} {w w' : World} (h : Kp F w w') (hF : ∀ j, j < w.heap.size → F j → G j) : Kp G w w' :=
  ⟨h.os, h.tape, h.output, h.size, fun j hj hG => h.block j hj fun hf => hG (hF j hj hf)⟩
/-- two steps, the second of which may turn what is new -/
theorem Kp.then {F G : Nat → Prop} {a b c : World} (h : Kp F a b) (k : Kp G b c) (hG : ∀ j, j < a.heap.size → G j → F j) : Kp F a c :=
  ⟨k.os.trans h.os, k.tape.trans h.tape, k.output.trans h.output, Nat.le_trans h.size k.size, fun j hj hF => (k.block j (Nat.lt_of_lt_of_le hj h.size) fun g => hF (hG j hj g)).trans (h.block j hj hF)⟩
theorem Kp.of_below {F : Nat → Prop} {w w' : World} (h : Below w.heap.size w w') : Kp F w w' := ⟨h.os, h.tape, h.output, h.size, fun j hj _ => h.block j hj⟩
theorem Kp.below {F : Nat → Prop} {w w' : World} {B : Nat} (h : Kp F w w') (hB : B ≤ w.heap.size) (hF : ∀ j, j < B → ¬ F j) : Below B w w' :=
  ⟨h.os, h.tape, h.output, h.size, fun j hj => h.block j (by omega) (hF j hj)⟩
theorem Kp.setCell {F : Nat → Prop} {a w : World} (h : Kp F a w) {p : Addr} (hp : F p.block ∨ a.heap.size ≤ p.block) (u : Value) : Kp F a (w.setCell p u) :=
  ⟨h.os, h.tape, h.output, by simpa using h.size, fun j hj hF => (Below.heap_setCell _ _ _ _ (by rintro rfl; rcases hp with hp | hp; exact hF hp; omega)).trans (h.block j hj hF)⟩
theorem Kp.alloc {F : Nat → Prop} {a w : World} (h : Kp F a w) (o : Obj) : Kp F a (w.alloc o) :=
  ⟨h.os, h.tape, h.output, by simp; have := h.size; omega, fun j hj hF => (Below.heap_alloc _ _ _ (Nat.lt_of_lt_of_le hj h.size)).trans (h.block j hj hF)⟩
theorem Kp.drewN {F : Nat → Prop} {a w : World} (h : Kp F a w) (n : Nat) : Kp F a (w.drewN n) := ⟨h.os, h.tape, h.output, h.size, h.block⟩
theorem Kp.drew {F : Nat → Prop} {a w : World} (h : Kp F a w) : Kp F a w.drew := ⟨h.os, h.tape, h.output, h.size, h.block⟩
theorem Kp.grown {F : Nat → Prop} {a w w' : World} {row : Option Nat} (h : Kp F a w) (hg : w.grownBy w' row) (hr : ∀ k, row = some k → F k ∨ a.heap.size ≤ k) : Kp F a w' :=
  ⟨hg.os.trans h.os, hg.tape.trans h.tape, hg.output.trans h.output, Nat.le_trans h.size hg.size, fun j hj hF =>
    (hg.block j (Nat.lt_of_lt_of_le hj h.size) (fun e => by rcases hr j e.symm with h1 | h1; exact hF h1; omega)).trans (h.block j hj hF)⟩
theorem Kp.cell {F : Nat → Prop} {w w' : World} (h : Kp F w w') {p : Addr} {v : Value} (hc : w.cell? p = some v) (hn : ¬ F p.block) : w'.cell? p = some v :=
  (World.cell?_of_block (w := w) (h.block p.block (World.block_lt_of_cell? w p hc) hn)).trans hc
theorem Kp.froz {F : Nat → Prop} {w w' : World} (h : Kp F w w') {p : Addr} (hp : p.block < w.heap.size) (hn : ¬ F p.block) : w'.frozen? p = w.frozen? p :=
  World.frozen?_of_block (w := w) (h.block p.block hp hn)

/-- a row of bytes, or none -/
def Row (w : World) (v : Value) (l : List UInt8) : Prop := w.ownsRow 0 5 1 v l.length (Lib.byteCells l)
theorem Row.nil (w : World) : Row w (.slice none 0 0) [] := World.ownsRow_nil w 0 5 1
theorem Row.lt {w : World} {v : Value} {l : List UInt8} (h : Row w v l) : ∀ g, v.ownBlock = some g → g < w.heap.size := fun g hg => (World.ownsRow.lt h g hg).2
theorem Row.kept {w w' : World} {v : Value} {l : List UInt8} (h : Row w v l) (hb : ∀ g, v.ownBlock = some g → w'.heap[g]? = w.heap[g]?) : Row w' v l := by
  refine ⟨h.1, ?_⟩
  rcases h.2 with hn | ⟨g, cap, cur, rfl, hb0, hgg, rest⟩
  · exact .inl hn
  · exact .inr ⟨g, cap, cur, rfl, hb0, (hb g rfl).trans hgg, rest⟩
theorem Row.drewN {w : World} {v : Value} {l : List UInt8} (h : Row w v l) (n : Nat) : Row (w.drewN n) v l := h
theorem Row.shape {w : World} {v : Value} {l : List UInt8} (h : Row w v l) : ∃ p cap, v = .slice p l.length cap ∧ l.length ≤ cap ∧ (∀ a, p = some a → a.spot = none) := by
  rcases h.2 with ⟨rfl, h0⟩ | ⟨g, cap, cur, rfl, _, _, hn, _⟩
  · exact ⟨none, 0, by rw [h0], by omega, fun a h => by cases h⟩
  · exact ⟨_, cap, rfl, hn, fun a h => by cases h; rfl⟩
theorem Row.cut {w : World} {p : Option Addr} {n cap m : Nat} {l : List UInt8} (h : Row w (.slice p n cap) l) (hm : m ≤ l.length) : Row w (.slice p m cap) (l.take m) := by
  obtain ⟨h1, h2⟩ := h
  have hl : (l.take m).length = m := by rw [List.length_take]; omega
  unfold Row
  rw [hl]
  refine ⟨by simp [Lib.byteCells]; omega, ?_⟩
  rcases h2 with ⟨e, h0⟩ | ⟨g, cap', cur, e, hb, hh, hn, hc, hs, ht⟩
  · injection e with e1 e2 e3
    subst e1; subst e3
    have : m = 0 := by omega
    subst this
    exact .inl ⟨rfl, rfl⟩
  · injection e with e1 e2 e3
    subst e1; subst e3
    refine .inr ⟨g, cap, cur, rfl, hb, hh, by omega, hc, hs, ?_⟩
    have : Lib.byteCells (l.take m) = (Lib.byteCells l).take m := by simp [Lib.byteCells, List.map_take]
    rw [this, ← ht, List.take_take]
    congr 1
    omega
theorem Row.text {w : World} {v : Value} {l : List UInt8} (h : Row w v l) : (convert 71 9 v).run Try.prog w = .ok (sv l) w := by
  rcases h.2 with ⟨rfl, h0⟩ | ⟨g, cap, cur, rfl, hb, hh, hn, hc, hs, ht⟩
  · have : l = [] := List.eq_nil_of_length_eq_zero h0
    subst this
    exact run_convert_bytes_nil w 71 5 Try.underlying71 Try.underlying5 0 0 9 Try.underlying9
  · refine run_convert_bytes_back w 71 9 5 ⟨g, 0, none⟩ cap l Try.underlying71 Try.underlying5 Try.underlying9 (fun j hj => ?_)
    have ha : (⟨g, 0, none⟩ : Addr).add j = ⟨g, j, none⟩ := by unfold Addr.add; split <;> simp_all
    rw [ha, cell_of_row w g j cur 5 (0, 0) hh]
    rw [Nat.mul_one] at ht
    have e : (Lib.byteCells l)[j]? = cur[j]? := by
      rw [← ht, List.getElem?_take, if_pos hj, Array.getElem?_toList]
    rw [← e]
    simp [Lib.byteCells, hj]

/-- the program's eleven cells -/
def dArr (room : Nat) (vs : Nat → Value) (S : Nat → Nat) (down : Bool) (fuse : Int) : Array Value :=
  #[.int .i64 (room : Nat), vs 0, .int .i64 (S 0 : Nat), vs 1, .int .i64 (S 1 : Nat), vs 2, .int .i64 (S 2 : Nat), vs 3, .int .i64 (S 3 : Nat), .bool down, .int .i64 fuse]
/-- the reference's -/
def rArr (m : DM) : Array Value :=
  #[sv (m.B 0), sv (m.B 1), sv (m.B 2), sv (m.B 3), .int .i64 (m.S 0 : Nat), .int .i64 (m.S 1 : Nat), .int .i64 (m.S 2 : Nat), .int .i64 (m.S 3 : Nat), .int .i64 (m.room : Nat), .int .i64 m.fuse, .bool m.down]
/-- files' rows: each is there, in a block of P's, none is another's, and none is b -/
structure Rows4 (P : Nat → Prop) (w : World) (b : Nat) (vs : Nat → Value) (B : Nat → List UInt8) : Prop where
  row : ∀ k, k < 4 → Row w (vs k) (B k)
  perm : ∀ k, k < 4 → ∀ g, (vs k).ownBlock = some g → P g ∧ g ≠ b
  apart : ∀ j k, j < 4 → k < 4 → j ≠ k → ∀ g, (vs j).ownBlock = some g → (vs k).ownBlock ≠ some g
theorem obj_lt {w : World} {b : Nat} {o : Obj} (h : w.heap[b]? = some o) : b < w.heap.size := (Array.getElem?_eq_some_iff.1 h).1
theorem obj_cell {w : World} {b : Nat} {cur : Array Value} {T : TypeId} (h : w.heap[b]? = some (.cells cur T (0, 0))) {i : Nat} {v : Value} (hi : cur[i]? = some v) : w.cell? ⟨b, i, none⟩ = some v := by
  rw [cell_of_row w b i cur T (0, 0) h, hi]
theorem obj_free {w : World} {b : Nat} {cur : Array Value} {T : TypeId} (h : w.heap[b]? = some (.cells cur T (0, 0))) (i : Nat) : w.frozen? ⟨b, i, none⟩ = false := by simp [World.frozen?, h]
theorem obj_set {w : World} {b : Nat} {cur : Array Value} {T : TypeId} (h : w.heap[b]? = some (.cells cur T (0, 0))) (i : Nat) (v : Value) : (w.setCell ⟨b, i, none⟩ v).heap[b]? = some (.cells (cur.setIfInBounds i v) T (0, 0)) := by
  simp [World.setCell, Array.getElem?_modify, h]
theorem obj_other {w : World} {a : Addr} {k : Nat} (v : Value) (h : k ≠ a.block) : (w.setCell a v).heap[k]? = w.heap[k]? := Below.heap_setCell w a v k h

theorem Rows4.kept {P : Nat → Prop} {w w' : World} {b : Nat} {vs : Nat → Value} {B : Nat → List UInt8} (h : Rows4 P w b vs B) (hb : ∀ j, j < w.heap.size → P j → j ≠ b → w'.heap[j]? = w.heap[j]?) : Rows4 P w' b vs B :=
  ⟨fun k hk => (h.row k hk).kept fun g hg => hb g ((h.row k hk).lt g hg) (h.perm k hk g hg).1 (h.perm k hk g hg).2, h.perm, h.apart⟩
theorem Rows4.weak {P Q : Nat → Prop} {w : World} {b : Nat} {vs : Nat → Value} {B : Nat → List UInt8} (h : Rows4 P w b vs B) (hq : ∀ j, j < w.heap.size → P j → Q j) : Rows4 Q w b vs B :=
  ⟨h.row, fun k hk g hg => ⟨hq g ((h.row k hk).lt g hg) (h.perm k hk g hg).1, (h.perm k hk g hg).2⟩, h.apart⟩
/-- one file's row is another one -/
theorem Rows4.put {P : Nat → Prop} {w w' : World} {b : Nat} {vs : Nat → Value} {B : Nat → List UInt8} (h : Rows4 P w b vs B) {k : Nat} (hk : k < 4) {v : Value} {l : List UInt8} (hr : Row w' v l)
    (hv : ∀ g, v.ownBlock = some g → (vs k).ownBlock = some g ∨ (w.heap.size ≤ g ∧ P g))
    (hb : ∀ j, j < 4 → j ≠ k → ∀ g, (vs j).ownBlock = some g → w'.heap[g]? = w.heap[g]?) (hbw : b < w.heap.size) : Rows4 P w' b (upd vs k v) (upd B k l) := by
  refine ⟨fun j hj => ?_, fun j hj g hg => ?_, fun i j hi hj hij g hg => ?_⟩
  · by_cases e : j = k
    · subst e; rw [upd_same, upd_same]; exact hr
    · rw [upd_other _ _ e, upd_other _ _ e]; exact (h.row j hj).kept (hb j hj e)
  · by_cases e : j = k
    · subst e; rw [upd_same] at hg
      rcases hv g hg with h1 | ⟨h1, h2⟩
      · exact h.perm j hj g h1
      · exact ⟨h2, by omega⟩
    · rw [upd_other _ _ e] at hg; exact h.perm j hj g hg
  · by_cases e : i = k
    · subst e; rw [upd_same] at hg; rw [upd_other _ _ (Ne.symm hij)]
      rcases hv g hg with h1 | ⟨h1, h2⟩
      · exact h.apart i j hi hj hij g h1
      · intro h3; have := (h.row j hj).lt g h3; omega
    · rw [upd_other _ _ e] at hg
      by_cases e2 : j = k
      · subst e2; rw [upd_same]
        intro h3
        rcases hv g h3 with h1 | ⟨h1, h2⟩
        · exact h.apart i j hi hj hij g hg h1
        · have := (h.row i hi).lt g hg; omega
      · rw [upd_other _ _ e2]; exact h.apart i j hi hj hij g hg
theorem dArr_set_file (room : Nat) (vs : Nat → Value) (S : Nat → Nat) (down : Bool) (fuse : Int) (k : Nat) (hk : k < 4) (v : Value) : (dArr room vs S down fuse).setIfInBounds (1 + k * 2) v = dArr room (upd vs k v) S down fuse := by
  obtain rfl | rfl | rfl | rfl : k = 0 ∨ k = 1 ∨ k = 2 ∨ k = 3 := by omega
  all_goals rfl
theorem dArr_set_sure (room : Nat) (vs : Nat → Value) (S : Nat → Nat) (down : Bool) (fuse : Int) (k : Nat) (hk : k < 4) (n : Nat) : (dArr room vs S down fuse).setIfInBounds (1 + k * 2 + 1) (.int .i64 (n : Nat)) = dArr room vs (upd S k n) down fuse := by
  obtain rfl | rfl | rfl | rfl : k = 0 ∨ k = 1 ∨ k = 2 ∨ k = 3 := by omega
  all_goals rfl
theorem dArr_file (room : Nat) (vs : Nat → Value) (S : Nat → Nat) (down : Bool) (fuse : Int) (k : Nat) (hk : k < 4) : (dArr room vs S down fuse)[1 + k * 2]? = some (vs k) := by
  obtain rfl | rfl | rfl | rfl : k = 0 ∨ k = 1 ∨ k = 2 ∨ k = 3 := by omega
  all_goals rfl
theorem dArr_sure (room : Nat) (vs : Nat → Value) (S : Nat → Nat) (down : Bool) (fuse : Int) (k : Nat) (hk : k < 4) : (dArr room vs S down fuse)[1 + k * 2 + 1]? = some (.int .i64 (S k : Nat)) := by
  obtain rfl | rfl | rfl | rfl : k = 0 ∨ k = 1 ∨ k = 2 ∨ k = 3 := by omega
  all_goals rfl
end Go.Proofs.Ytghebijikdnikaa
