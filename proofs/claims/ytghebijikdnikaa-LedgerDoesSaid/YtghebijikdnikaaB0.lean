/- Rows of bytes of the call's own. -/
import Derived.Test.YtghebijikdnikaaK9
import Derived.Laws.MakeOwn
import Derived.Laws.IdiomStrings
import Derived.Laws.NewBlocks
namespace Go.Proofs.Ytghebijikdnikaa
open Go.RowKit
set_option linter.unusedVariables false

/-- a row of bytes, whole, in a block of the call's own -/
def BRow (w : World) (g : Nat) (l : List UInt8) : Prop := w.heap[g]? = some (.cells ((Lib.byteCells l).toArray) 5 (0, 0))
theorem BRow.lt {w : World} {g : Nat} {l : List UInt8} (h : BRow w g l) : g < w.heap.size := (Array.getElem?_eq_some_iff.1 h).1
theorem BRow.kept {w w' : World} {g : Nat} {l : List UInt8} (h : BRow w g l) (hb : Below w.heap.size w w') : BRow w' g l := (hb.block g h.lt).trans h
theorem BRow.drewN {w : World} {g : Nat} {l : List UInt8} (h : BRow w g l) (n : Nat) : BRow (w.drewN n) g l := h
theorem BRow.cell {w : World} {g i : Nat} {l : List UInt8} (h : BRow w g l) (hi : i < l.length) : w.cell? ⟨g, i, none⟩ = some (.int .u8 (l[i].toNat : Int)) := by
  rw [cell_of_row w g i _ 5 (0, 0) h]
  simp [Lib.byteCells, List.getElem?_eq_getElem hi]
theorem BRow.free {w : World} {g i : Nat} {l : List UInt8} (h : BRow w g l) : w.frozen? ⟨g, i, none⟩ = false := by
  unfold BRow at h
  simp [World.frozen?, h]
theorem BRow.set {w : World} {g i : Nat} {l : List UInt8} (h : BRow w g l) (x : UInt8) : BRow (w.setCell ⟨g, i, none⟩ (.int .u8 (x.toNat : Int))) g (l.set i x) := by
  unfold BRow at *
  simp [World.setCell, Array.getElem?_modify, h, Lib.byteCells, List.map_set]
/-- n bytes that are 0 -/
def zb (n : Nat) : Array Value := (Lib.byteCells (List.replicate n 0)).toArray
theorem BRow.made (X : World) (n : Nat) : BRow (X.alloc (.cells (zb n) 5)) X.heap.size (List.replicate n 0) := heap_alloc_new X _
theorem made_zb (n : Nat) : madeCells #[Value.int .u8 0] n = zb n := by
  unfold zb Lib.byteCells
  apply Array.ext
  · simp [size_madeCells]
  · intro i h1 h2
    simp [madeCells, Nat.mod_one]
theorem Try.info5 : (Try.prog.info? 5).map (fun i => (i.zero, i.size, i.bytes)) = some (some (.int .u8 0), 1, 1) := by kernel_rfl
theorem make_bytes (n : Nat) (hn : n ≤ 1000000) (w : World) :
    (Instr.makeSlice 71 (.int .i64 (n : Int)) (.int .i64 (n : Int))).run Try.prog w = .ok (.slice (some ⟨w.heap.size, 0, none⟩) n n) (w.alloc (.cells (zb n) 5)) := by
  obtain ⟨i0, hi, hz0, hz1, hz2⟩ := info_parts Try.info5
  have hb : (i0.bytes : Int) * (n : Int) ≤ 281474976710656 := by rw [hz2]; omega
  have hr := run_make (P := Try.prog) w 71 5 i0 (.int .u8 0) Try.underlying71 hi hz0 .i64 .i64 n n (by omega) (by omega) hb (by omega)
  simp only [Int.toNat_natCast, hz1, Nat.mul_one] at hr
  rw [hr, ← made_zb]
  rfl
theorem bytes_text (w : World) (g n cap : Nat) (l : List UInt8) (h : BRow w g l) (hl : l.length = n) :
    (convert 71 9 (.slice (some ⟨g, 0, none⟩) n cap)).run Try.prog w = .ok (.string ⟨l.toArray⟩) w := by
  subst hl
  refine run_convert_bytes_back w 71 9 5 ⟨g, 0, none⟩ cap l Try.underlying71 Try.underlying5 Try.underlying9 (fun j hj => ?_)
  have ha : (⟨g, 0, none⟩ : Addr).add j = ⟨g, j, none⟩ := by unfold Addr.add; split <;> simp_all
  rw [ha, h.cell hj]
end Go.Proofs.Ytghebijikdnikaa
