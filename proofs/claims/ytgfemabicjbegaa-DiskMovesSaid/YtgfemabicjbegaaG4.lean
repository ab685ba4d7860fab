/- What a crash leaves, plainly; the laws' loop over operations, behind which both disks are there. -/
import Derived.Test.YtgfemabicjbegaaDiskDoes
namespace Go.Proofs.Ytgfemabicjbegaa
open Go.RowKit
set_option linter.unusedVariables false

theorem crash_B (m : DM) (K : Nat → Int) (k : Nat) (hk : k < 4) : (m.crash (K 0) (K 1) (K 2) (K 3)).B k = (m.B k).take (m.left k (K k)) := by
  obtain rfl | rfl | rfl | rfl : k = 0 ∨ k = 1 ∨ k = 2 ∨ k = 3 := by omega
  all_goals simp [DM.crash, DM.lose, DM.put, upd, DM.left]
theorem crash_S (m : DM) (K : Nat → Int) (k : Nat) (hk : k < 4) : (m.crash (K 0) (K 1) (K 2) (K 3)).S k = m.left k (K k) := by
  obtain rfl | rfl | rfl | rfl : k = 0 ∨ k = 1 ∨ k = 2 ∨ k = 3 := by omega
  all_goals simp [DM.crash, DM.lose, DM.put, upd, DM.left]
theorem crash_pow (m : DM) (x0 x1 x2 x3 : Int) : (m.crash x0 x1 x2 x3).pow = true := by
  show (!false && decide ((-1 : Int) ≠ 0)) = true
  decide
/-- a crash more changes nothing -/
theorem crash_again (m : DM) (ok : m.Ok) (K : Nat → Int) (k : Nat) (hk : k < 4) :
    ((m.crash (K 0) (K 1) (K 2) (K 3)).crash 0 0 0 0).B k = (m.crash (K 0) (K 1) (K 2) (K 3)).B k := by
  have h := crash_B (m.crash (K 0) (K 1) (K 2) (K 3)) (fun _ => 0) k hk
  refine h.trans ?_
  rw [List.take_of_length_le]
  have hs := crash_S m K k hk
  have hb := crash_B m K k hk
  have hl := m.left_le ok hk (K k)
  unfold DM.left at hl
  show ((m.crash (K 0) (K 1) (K 2) (K 3)).B k).length ≤ (m.crash (K 0) (K 1) (K 2) (K 3)).S k + _
  rw [hs, hb, List.length_take]
  omega
theorem app_nothing (m : DM) (hp : m.pow = true) : (m.app 0 []).1 = 0 := by
  unfold DM.app
  rw [show isFile 0 = true from rfl, hp]
  simp
/-- a text's beginning -/
theorem sv_size (l : List UInt8) : (⟨l.toArray⟩ : ByteArray).size = l.length := by rw [sz, bl_mk]

/-- four texts' cells -/
def wArr (f : Nat → List UInt8) : Array Value := #[sv (f 0), sv (f 1), sv (f 2), sv (f 3)]
theorem wArr_set (f : Nat → List UInt8) (k : Nat) (hk : k < 4) (l : List UInt8) : (wArr f).setIfInBounds k (sv l) = wArr (upd f k l) := by
  obtain rfl | rfl | rfl | rfl : k = 0 ∨ k = 1 ∨ k = 2 ∨ k = 3 := by omega
  all_goals rfl
theorem wArr_at (f : Nat → List UInt8) (k : Nat) (hk : k < 4) : (wArr f)[k]? = some (sv (f k)) := by
  obtain rfl | rfl | rfl | rfl : k = 0 ∨ k = 1 ∨ k = 2 ∨ k = 3 := by omega
  all_goals rfl

/-- the program's disk, the reference's, four texts; and what came in -/
structure Beh (w : World) (Q : Nat → Prop) (wr : World) (d r g : Nat) (m mr : DM) (f : Nat → List UInt8) : Prop where
  disk : IsD Q wr d m
  ref : IsR wr r mr
  box : wr.heap[g]? = some (.cells (wArr f) 38 (0, 0))
  up : ∀ j, wr.heap.size ≤ j → Q j
  notr : ¬ Q r
  notg : ¬ Q g
  gr : g ≠ r
  low : ∀ j, j < w.heap.size → ¬ Q j
  gw : w.heap.size ≤ g
  bel : Below w.heap.size w wr
theorem beh_start {w wr : World} {d r : Nat} {m : DM} (h : Lp w (fun j => w.heap.size ≤ j ∧ j ≠ r) wr d r m) :
    Beh w (fun j => (w.heap.size ≤ j ∧ j ≠ r) ∧ j ≠ wr.heap.size) (wr.alloc (.cells (wArr fun _ => []) 38)) d r wr.heap.size m m (fun _ => []) := by
  have hrl := obj_lt h.two.ref
  refine ⟨(h.two.disk.weak fun j hj hp => ⟨hp, by omega⟩).kept ((Kp.refl (fun _ => False) wr).alloc _) (fun _ _ _ h => h), h.two.ref.kept ((Kp.refl (fun _ => False) wr).alloc _) (fun h => h), heap_alloc_new wr _, fun j hj => ?_, fun h => h.1.2 rfl, fun h => h.2 rfl, by omega, fun j hj h => by omega, h.bel.size, h.bel.alloc h.bel.size _⟩
  rw [World.size_alloc] at hj
  exact ⟨h.two.up j (by omega), by omega⟩
/-- a text is stored -/
theorem Beh.set {w : World} {Q : Nat → Prop} {wr : World} {d r g : Nat} {m mr : DM} {f : Nat → List UInt8} (h : Beh w Q wr d r g m mr f) {k : Nat} (hk : k < 4) (l : List UInt8) : Beh w Q (wr.setCell ⟨g, k, none⟩ (sv l)) d r g m mr (upd f k l) := by
  have hK : Kp (· = g) wr (wr.setCell ⟨g, k, none⟩ (sv l)) := kp_set
  refine ⟨h.disk.kept hK fun j _ hj e => h.notg (e ▸ hj), h.ref.kept hK fun e => h.gr e.symm, ?_, fun j hj => h.up j (by simpa using hj), h.notr, h.notg, h.gr, h.low, h.gw, h.bel.setCell h.gw _⟩
  have ho := obj_set h.box k (sv l)
  rw [wArr_set f k hk] at ho
  exact ho
/-- a call of the program's -/
theorem Beh.call {w : World} {Q : Nat → Prop} {wr w' : World} {d r g : Nat} {m m' mr : DM} {f : Nat → List UInt8} (h : Beh w Q wr d r g m mr f) (hD : IsD Q w' d m') (hK : Kp Q wr w') : Beh w Q w' d r g m' mr f :=
  ⟨hD, h.ref.kept hK h.notr, (hK.block g (obj_lt h.box) h.notg).trans h.box, fun j hj => h.up j (by have := hK.size; omega), h.notr, h.notg, h.gr, h.low, h.gw, h.bel.trans (hK.below h.bel.size h.low)⟩
theorem Beh.text {w : World} {Q : Nat → Prop} {wr : World} {d r g : Nat} {m mr : DM} {f : Nat → List UInt8} (h : Beh w Q wr d r g m mr f) {k : Nat} (hk : k < 4) : wr.cell? ⟨g, k, none⟩ = some (sv (f k)) := obj_cell h.box (wArr_at f k hk)
theorem Beh.free {w : World} {Q : Nat → Prop} {wr : World} {d r g : Nat} {m mr : DM} {f : Nat → List UInt8} (h : Beh w Q wr d r g m mr f) (k : Nat) : wr.frozen? ⟨g, k, none⟩ = false := obj_free h.box k
end Go.Proofs.Ytgfemabicjbegaa
