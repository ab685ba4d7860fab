/- The contract of the reference's New. -/
import Derived.Test.YtljclgphgojphaaLG2
import Derived.Deep.RegionLaw
import Derived.Laws.AppendOwn
import Derived.Laws.MakeOwn
namespace Go.Proofs.Ytljclgphgojphaa
open Go.RowKit
set_option linter.unusedVariables false

/-- a slice of slices of the call's own -/
def OwnR (B : Nat) (w : World) (v : Value) (xs : List Value) : Prop := w.ownsRow B 27 1 v xs.length xs
theorem Try.info42r : (Try.prog.info? 27).map (fun i => (i.zero, i.size, i.bytes)) = some (some (.slice none 0 0), 1, 24) := by kernel_rfl
theorem Try.info2r : (Try.prog.info? 2).map (fun i => (i.zero, i.size, i.bytes)) = some (some (.int .i64 0), 1, 8) := by kernel_rfl
theorem OwnR.block {B : Nat} {w w' : World} {v : Value} {l : List Value} (h : OwnR B w v l) (hb : ∀ g, v.ownBlock = some g → w'.heap[g]? = w.heap[g]?) : OwnR B w' v l := by
  obtain ⟨hlen, h⟩ := h
  refine ⟨hlen, h.imp id ?_⟩
  rintro ⟨g, cap, cur, rfl, hg, hh, r⟩
  exact ⟨g, cap, cur, rfl, hg, (hb g rfl).trans hh, r⟩
theorem OwnR.lt {B : Nat} {w : World} {v : Value} {l : List Value} (h : OwnR B w v l) : ∀ k, v.ownBlock = some k → B ≤ k ∧ k < w.heap.size := World.ownsRow.lt h
theorem OwnR.shape {B : Nat} {w : World} {v : Value} {l : List Value} (h : OwnR B w v l) : ∃ p cap, v = .slice p l.length cap := by
  rcases h.2 with ⟨rfl, h0⟩ | ⟨g, cap, cur, rfl, _⟩
  · exact ⟨none, 0, by rw [h0]⟩
  · exact ⟨_, cap, rfl⟩
theorem OwnR.rows {B : Nat} {w : World} {v : Value} {l : List Value} (h : OwnR B w v l) (h0 : l ≠ []) : ∃ (g cap : Nat) (cs : Array Value), v = .slice (some ⟨g, 0, none⟩) l.length cap ∧ B ≤ g ∧ w.heap[g]? = some (.cells cs 27 (0, 0)) ∧ ∀ (i : Nat) (x : Value), l[i]? = some x → cs[i]? = some x := by
  rcases h.2 with ⟨rfl, h1⟩ | ⟨g, cap, cur, rfl, hg, hh, hn, hm, hs, ht⟩
  · exact absurd (List.eq_nil_of_length_eq_zero h1) h0
  · refine ⟨g, cap, cur, rfl, hg, hh, fun i x hx => ?_⟩
    rw [← ht, List.getElem?_take] at hx
    split at hx
    · rwa [Array.getElem?_toList] at hx
    · cases hx
theorem step_appR {P : Program} {ops : Array Oper} {o : Oper} {a : Act} {w : World} {K : Act → World → Prop} {Q : Exit → Act → World → Prop} {E : Prop}
    (hg : o.guard = none) (s x : Operand) (t t' : TypeId) (hop : o.op = Op.call { callee := Callee.builtin Builtin.append, args := #[s, x], argTypes := #[t, t'] })
    (v y v' : Value) (w' : World) (hs : a.eval s = v) (hx : a.eval x = y) (hr : (Builtin.append_ #[t, t'] o.type #[v, y]).run P w = .ok v' w') (hK : K (a.put o.dst v') w') :
    if Region.wanted o (yielded ops a.tmps) = true then Oper.wp P o a w K Q else E := by
  have hw : Region.wanted o (yielded ops a.tmps) = true := by simp [Region.wanted, hg]
  rw [if_pos hw]
  unfold Oper.wp
  simp [execOp, hop, resolve, invoke, builtin, hs, hx, hr, Result.andThen]
  exact hK
/-- rows of amounts that are 0 -/
def zi (n : Nat) : Array Value := madeCells #[Value.int .i64 0] n
theorem zi_get (n : Nat) : ∀ i, i < n → (zi n)[i]? = some (.int .i64 0) := fun i hi => by
  unfold zi madeCells
  simp [hi, Nat.mod_one]
theorem make_amounts (n : Nat) (hn : n ≤ 1000) (w : World) :
    (Instr.makeSlice 27 (.int .i64 (n : Int)) (.int .i64 (n : Int))).run Try.prog w = .ok (.slice (some ⟨w.heap.size, 0, none⟩) n n) (w.alloc (.cells (zi n) 2)) := by
  obtain ⟨i0, hi, hz0, hz1, hz2⟩ := info_parts Try.info2r
  have hb : (i0.bytes : Int) * (n : Int) ≤ 281474976710656 := by rw [hz2]; omega
  have hr := run_make (P := Try.prog) w 27 2 i0 (.int .i64 0) Try.underlying27 hi hz0 .i64 .i64 n n (by omega) (by omega) hb (by omega)
  simp only [Int.toNat_natCast, hz1, Nat.mul_one] at hr
  exact hr
theorem IR.zero {w : World} {g n : Nat} (h : w.heap[g]? = some (.cells (zi n) 2 (0, 0))) : IR w g (fun _ => 0) n := ⟨_, h, zi_get n⟩

def newOk (nm nc : Int) : Bool := decide (1 ≤ nm ∧ nm ≤ 16 ∧ 1 ≤ nc ∧ nc ≤ 8)
end Go.Proofs.Ytljclgphgojphaa
