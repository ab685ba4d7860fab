/- What comes in: deals, sizes, operations. -/
import Derived.Test.YtflbggehgjllcaaDoorDP
import Derived.Test.YtflbggehgjllcaaDoorRows
import Derived.ProofKit
import Derived.LaidMore
import Derived.OpenShut
import Derived.Stop.Joined
import Derived.Test.YtflbggehgjllcaaDoorEC
import Derived.Deep.Slices
namespace Go.Proofs.YtflbggehgjllcaaDoor
open Go.RowKit Go.ChangeShapes Go.WideShapes Go.ChangeAt
set_option linter.unusedVariables false

def dealFields : Array Field := #[⟨"Id", 3, 0, false, "", "", 0⟩, ⟨"A", 3, 1, false, "", "", 8⟩, ⟨"B", 3, 2, false, "", "", 16⟩, ⟨"SellCur", 3, 3, false, "", "", 24⟩, ⟨"BuyCur", 3, 4, false, "", "", 32⟩, ⟨"Sell", 2, 5, false, "", "", 40⟩, ⟨"Buy", 2, 6, false, "", "", 48⟩]
theorem undDeal : Tryd.prog.underlying 33 = some (.struct dealFields) := by kernel_rfl
theorem cellsOfDeal : Tryd.prog.cellsOf 33 = 7 := by kernel_rfl
theorem cellsOfInt3 : Tryd.prog.cellsOf 3 = 1 := by kernel_rfl
theorem cellsOfInt2 : Tryd.prog.cellsOf 2 = 1 := by kernel_rfl
section
variable {H : Type} {enc : TypeId × Value → H} {w : World}
set_option maxRecDepth 100000 in
/-- a deal, read -/
theorem deal_open {fuel : Nat} {cs : List Value} {x : DataW H × List MemPlace} (h : DataW.trod enc Tryd.prog w 0 (fun _ => true) true fuel 33 cs = some x) :
    ∃ d : Dl, cs = [.int .i64 d.id, .int .i64 d.a, .int .i64 d.b, .int .i64 d.sc, .int .i64 d.bc, .int .i64 d.s, .int .i64 d.t] ∧ d.In := by
  obtain ⟨xs, n, _, hx, hl, hlen, hf⟩ := DataW.trod_struct undDeal h
  rw [cellsOfDeal] at hl
  match cs, hl with
  | [v0, v1, v2, v3, v4, v5, v6], _ =>
    match xs, hlen with
    | [y0, y1, y2, y3, y4, y5, y6], _ =>
      have h0 := hf 0 ⟨"Id", 3, 0, false, "", "", 0⟩ rfl
      have h1 := hf 1 ⟨"A", 3, 1, false, "", "", 8⟩ rfl
      have h2 := hf 2 ⟨"B", 3, 2, false, "", "", 16⟩ rfl
      have h3 := hf 3 ⟨"SellCur", 3, 3, false, "", "", 24⟩ rfl
      have h4 := hf 4 ⟨"BuyCur", 3, 4, false, "", "", 32⟩ rfl
      have h5 := hf 5 ⟨"Sell", 2, 5, false, "", "", 40⟩ rfl
      have h6 := hf 6 ⟨"Buy", 2, 6, false, "", "", 48⟩ rfl
      simp only [cellsOfInt3, cellsOfInt2, List.drop_zero, List.drop_succ_cons, List.take_succ_cons, List.take_zero] at h0 h1 h2 h3 h4 h5 h6
      obtain ⟨a0, e0, _, w0⟩ := DataW.trod_int Tryd.underlying3 h0
      obtain ⟨a1, e1, _, w1⟩ := DataW.trod_int Tryd.underlying3 h1
      obtain ⟨a2, e2, _, w2⟩ := DataW.trod_int Tryd.underlying3 h2
      obtain ⟨a3, e3, _, w3⟩ := DataW.trod_int Tryd.underlying3 h3
      obtain ⟨a4, e4, _, w4⟩ := DataW.trod_int Tryd.underlying3 h4
      obtain ⟨a5, e5, _, w5⟩ := DataW.trod_int Tryd.underlying2 h5
      obtain ⟨a6, e6, _, w6⟩ := DataW.trod_int Tryd.underlying2 h6
      simp only [List.cons.injEq, and_true] at e0 e1 e2 e3 e4 e5 e6
      subst e0; subst e1; subst e2; subst e3; subst e4; subst e5; subst e6
      exact ⟨⟨a0, a1, a2, a3, a4, a5, a6⟩, rfl, bounds_i64 w0, bounds_i64 w1, bounds_i64 w2, bounds_i64 w3, bounds_i64 w4, bounds_i64 w5, bounds_i64 w6⟩
end
theorem gSizes : Tryd.prog.globalNamed "nostro/deal.sizes" = some 0 := by kernel_rfl
theorem tSizes : (Tryd.prog.globals[0]?).map (·.type) = some 69 := by kernel_rfl
theorem cells69 : Tryd.prog.cellsOf 69 = 10 := by kernel_rfl
/-- what the condition gives the walks: the sizes' ten cells -/
theorem sizes_of_laid {W : World} (h : laidMetH Tryd.prog [("nostro/deal.sizes", Rows.laid_nostro_deal_sizes)] W) : SZ W := by
  rw [MakeChecks.laidMetH_plain _ _ _ (by kernel_rfl)] at h
  obtain ⟨ps, ⟨g0, t0, cs0, f0, p0, q0, hg0, ht0, hv0, hd0, _⟩, _, _⟩ := h
  obtain rfl := Option.some.inj (gSizes.symm.trans hg0)
  obtain rfl := Option.some.inj (tSizes.symm.trans ht0)
  obtain ⟨xs, m1, rfl, hx1, hlen, hn, hel⟩ := DataW.trod_array Tryd.underlying69 hd0
  rw [cells69] at hlen
  have hn : xs.length = 10 := hn
  simp only [Prod.mk.injEq, Rows.laid_nostro_deal_sizes, DataW.agg.injEq] at hx1
  have one : ∀ i, i < 10 → ∀ n : Int, ([.lit (.int .i64 4), .lit (.int .i64 1), .lit (.int .i64 1), .lit (.int .i64 1), .lit (.int .i64 1), .lit (.int .i64 8), .lit (.int .i64 8), .lit (.int .i64 1), .lit (.int .i64 1), .lit (.int .i64 2)] : List (DataW Unit))[i]? = some (.lit (.int .i64 n)) → cs0[i]? = some (.int .i64 n) := by
    intro i hi n hni
    have h0 := hel i hi
    rw [cellsOfInt3, Nat.mul_one] at h0
    rw [List.getElem?_eq_getElem (by omega)] at h0
    obtain ⟨k, e1, e2, _⟩ := DataW.trod_int Tryd.underlying3 h0
    rw [hx1.1, List.getElem?_map, List.getElem?_eq_getElem (by omega)] at hni
    simp only [Option.map_some, Option.some.injEq] at hni
    rw [e2] at hni
    simp at hni
    subst hni
    have := congrArg (·[0]?) e1
    simp only [List.getElem?_take_of_lt (show 0 < 1 by omega), List.getElem?_drop, Nat.add_zero, List.getElem?_cons_zero, Array.getElem?_toList] at this
    exact this
  have vc := fun k => World.var?_cell gSizes hv0 k
  intro k hk
  exact (vc k).trans (ten (Q := fun k => cs0[k]? = some (.int .i64 (sz k : Nat))) (one 0 (by omega) _ rfl) (one 1 (by omega) _ rfl) (one 2 (by omega) _ rfl) (one 3 (by omega) _ rfl) (one 4 (by omega) _ rfl) (one 5 (by omega) _ rfl) (one 6 (by omega) _ rfl) (one 7 (by omega) _ rfl) (one 8 (by omega) _ rfl) (one 9 (by omega) _ rfl) k hk)
theorem door_met (os : Os) (args : Array Value) : laidMetH Tryd.prog [("nostro/deal.sizes", Rows.laid_nostro_deal_sizes)] ((World.doorLaid Tryd.prog 400 os).forCall (fun _ _ => 0) ⟨#[], args, []⟩).memory :=
  laidMetH_of_parts3 (fuel := 8) (laidMet_of_run' 8 (by kernel_rfl) (by kernel_rfl)) (by kernel_rfl) (by kernel_rfl)
end Go.Proofs.YtflbggehgjllcaaDoor
namespace Go.Proofs.YtflbggehgjllcaaDoor
open Go.RowKit Go.ChangeShapes Go.WideShapes Go.ChangeAt
set_option linter.unusedVariables false

def XOp.arr (x : XOp) : Array Value := #[.int .i64 x.Do, .int .i64 x.m, .int .i64 x.id, .int .i64 x.d.id, .int .i64 x.d.a, .int .i64 x.d.b, .int .i64 x.d.sc, .int .i64 x.d.bc, .int .i64 x.d.s, .int .i64 x.d.t]
def opFields : Array Field := #[⟨"Do", 3, 0, false, "", "", 0⟩, ⟨"Member", 3, 1, false, "", "", 8⟩, ⟨"Id", 3, 2, false, "", "", 16⟩, ⟨"D", 33, 3, false, "", "", 24⟩]
theorem undOp : Tryd.prog.underlying 35 = some (.struct opFields) := by kernel_rfl
theorem cellsOfOp : Tryd.prog.cellsOf 35 = 10 := by kernel_rfl
theorem bytesOfOp : Tryd.prog.bytesOf 35 = 80 := by kernel_rfl
/-- operations that are read -/
def OpsX (w : World) (p : Option Addr) (len : Nat) (ops : List XOp) : Prop :=
  ops.length = len ∧ len ≤ 140737488351232 ∧ (∀ x ∈ ops, x.In) ∧ (len = 0 ∨ ∃ b off, p = some ⟨b, off, none⟩ ∧ b < w.heap.size ∧ ∀ i x, ops[i]? = some x → ∀ j, j < 10 → w.cell? ⟨b, off + i * 10 + j, none⟩ = x.arr[j]?)
theorem OpsX.kept {w w' : World} {p : Option Addr} {len : Nat} {ops : List XOp} (h : OpsX w p len ops) (hb : Below w.heap.size w w') : OpsX w' p len ops := by
  obtain ⟨h1, h2, h3, h4⟩ := h
  refine ⟨h1, h2, h3, h4.imp id ?_⟩
  rintro ⟨b, off, rfl, hlt, hc⟩
  exact ⟨b, off, rfl, Nat.lt_of_lt_of_le hlt hb.size, fun i x hx j hj => (hb.cell (p := ⟨b, off + i * 10 + j, none⟩) hlt).trans (hc i x hx j hj)⟩
theorem OpsX.at {w : World} {p : Option Addr} {len : Nat} {ops : List XOp} (h : OpsX w p len ops) {k : Nat} {x : XOp} (hx : ops[k]? = some x) : ∃ b off, p = some ⟨b, off, none⟩ ∧ w.cell? ⟨b, off + k * 10, none⟩ = some (.int .i64 x.Do) ∧ w.cell? ⟨b, off + k * 10 + 1, none⟩ = some (.int .i64 x.m) ∧
    w.cell? ⟨b, off + k * 10 + 2, none⟩ = some (.int .i64 x.id) ∧ w.cell? ⟨b, off + k * 10 + 3, none⟩ = some (.int .i64 x.d.id) ∧ w.cell? ⟨b, off + k * 10 + 4, none⟩ = some (.int .i64 x.d.a) ∧ w.cell? ⟨b, off + k * 10 + 5, none⟩ = some (.int .i64 x.d.b) ∧ w.cell? ⟨b, off + k * 10 + 6, none⟩ = some (.int .i64 x.d.sc) ∧
    w.cell? ⟨b, off + k * 10 + 7, none⟩ = some (.int .i64 x.d.bc) ∧ w.cell? ⟨b, off + k * 10 + 8, none⟩ = some (.int .i64 x.d.s) ∧ w.cell? ⟨b, off + k * 10 + 9, none⟩ = some (.int .i64 x.d.t) := by
  obtain ⟨h1, _, _, h4⟩ := h
  have hk := (List.getElem?_eq_some_iff.1 hx).1
  obtain ⟨b, off, rfl, _, hc⟩ := h4.resolve_left (by omega)
  exact ⟨b, off, rfl, hc k x hx 0 (by omega), hc k x hx 1 (by omega), hc k x hx 2 (by omega), hc k x hx 3 (by omega), hc k x hx 4 (by omega), hc k x hx 5 (by omega), hc k x hx 6 (by omega), hc k x hx 7 (by omega), hc k x hx 8 (by omega), hc k x hx 9 (by omega)⟩
section
variable {H : Type} {enc : TypeId × Value → H} {w : World}
set_option maxRecDepth 100000 in
/-- one operation, read -/
theorem xop_open {fuel : Nat} {cs : List Value} {x : DataW H × List MemPlace} (h : DataW.trod enc Tryd.prog w 0 (fun _ => true) true fuel 35 cs = some x) : ∃ c : XOp, cs = c.arr.toList ∧ c.In := by
  obtain ⟨xs, n, _, hx, hl, hlen, hf⟩ := DataW.trod_struct undOp h
  rw [cellsOfOp] at hl
  match cs, hl with
  | [v0, v1, v2, v3, v4, v5, v6, v7, v8, v9], _ =>
    match xs, hlen with
    | [y0, y1, y2, y3], _ =>
      have h0 := hf 0 ⟨"Do", 3, 0, false, "", "", 0⟩ rfl
      have h1 := hf 1 ⟨"Member", 3, 1, false, "", "", 8⟩ rfl
      have h2 := hf 2 ⟨"Id", 3, 2, false, "", "", 16⟩ rfl
      have h3 := hf 3 ⟨"D", 33, 3, false, "", "", 24⟩ rfl
      simp only [cellsOfInt3, cellsOfDeal, List.drop_zero, List.drop_succ_cons, List.take_succ_cons, List.take_zero] at h0 h1 h2 h3
      obtain ⟨a0, e0, _, w0⟩ := DataW.trod_int Tryd.underlying3 h0
      obtain ⟨a1, e1, _, w1⟩ := DataW.trod_int Tryd.underlying3 h1
      obtain ⟨a2, e2, _, w2⟩ := DataW.trod_int Tryd.underlying3 h2
      obtain ⟨d, e3, hd⟩ := deal_open h3
      simp only [List.cons.injEq, and_true] at e0 e1 e2 e3
      obtain ⟨f0, f1, f2, f3, f4, f5, f6⟩ := e3
      subst e0; subst e1; subst e2; subst f0; subst f1; subst f2; subst f3; subst f4; subst f5; subst f6
      exact ⟨⟨a0, a1, a2, d⟩, rfl, ⟨bounds_i64 w1, bounds_i64 w2, hd⟩⟩
set_option maxRecDepth 100000 in
/-- operations that came in -/
theorem xops_open {fuel : Nat} {a : Option Addr} {len cap : Nat} {x : DataW H × List MemPlace} (h : DataW.trod enc Tryd.prog w 0 (fun _ => true) true fuel 22 (Value.cells (.slice a len cap)).toList = some x)
    (hw : ∀ n ∈ x.1.weights Tryd.prog 22, n ≤ 140737488351232) : ∃ ops, OpsX w a len ops := by
  rcases Go.Deep.open_slice Tryd.underlying22 h with ⟨hcs, _⟩ | ⟨ad, l, c, m, n, D, Pl, hcs, _, hl, hm, hmm, hx, hi⟩
  · simp [Value.cells] at hcs
    obtain ⟨rfl, rfl, rfl⟩ := hcs
    exact ⟨[], rfl, by decide, fun x hx => (by cases hx), .inl rfl⟩
  · simp [Value.cells] at hcs
    obtain ⟨rfl, rfl, rfl⟩ := hcs
    have hml : len ≤ m := by rw [hmm]; simpa using hl
    subst hx
    have hone : ∀ i, i < len → ∃ c : XOp, c.In ∧ ∀ j, j < 10 → w.cell? (ad.add (i * 10 + j)) = c.arr[j]? := by
      intro i hil
      obtain ⟨cs', hc, ht⟩ := hi i (by omega)
      rw [cellsOfOp] at hc
      obtain ⟨c, rfl, h1⟩ := xop_open ht
      obtain ⟨_, _, hat⟩ := World.cells?_some hc
      refine ⟨c, h1, fun j hj => ?_⟩
      have g := hat j hj
      rw [Go.Deep.add_add] at g
      rw [g]
      simp
    have hmx : len ≤ 140737488351232 := by
      have h1 : ∀ n ∈ (DataW.slice ((List.range len).map D) ((List.range (m - len)).map fun j => D (len + j))).weights Tryd.prog 22, n ≤ 140737488351232 := hw
      simp only [DataW.weights, Tryd.underlying22, List.mem_cons] at h1
      have h2 := h1 _ (.inl rfl)
      rw [bytesOfOp] at h2
      simp only [List.length_map, List.length_range] at h2
      omega
    let f : Nat → XOp := fun i => if h : i < len then Classical.choose (hone i h) else ⟨0, 0, 0, zeroD⟩
    have hf : ∀ i, i < len → (f i).In ∧ ∀ j, j < 10 → w.cell? (ad.add (i * 10 + j)) = (f i).arr[j]? := by
      intro i h
      have e : f i = Classical.choose (hone i h) := dif_pos h
      rw [e]
      exact Classical.choose_spec (hone i h)
    refine ⟨(List.range len).map f, by simp, hmx, fun y hy => ?_, ?_⟩
    · obtain ⟨i, hi', rfl⟩ := List.mem_map.1 hy
      exact (hf i (List.mem_range.1 hi')).1
    by_cases h0 : len = 0
    · exact .inl h0
    · obtain ⟨b, off, spot⟩ := ad
      have c0 := (hf 0 (by omega)).2 0 (by omega)
      have c1 : w.cell? ((⟨b, off, spot⟩ : Addr).add (0 * 10 + 0)) = some (.int .i64 (f 0).Do) := c0
      have hspot : spot = none := by simpa [Addr.add] using World.cell?_spot c1
      subst hspot
      refine .inr ⟨b, off, rfl, ?_, fun i y hy j hj => ?_⟩
      · have := World.block_lt_of_cell? w _ c1
        rwa [Go.WideShapes.add_plain] at this
      · have hil : i < len := by have := (List.getElem?_eq_some_iff.1 hy).1; simpa using this
        rw [List.getElem?_map, List.getElem?_range hil] at hy
        injection hy with hy
        subst hy
        have g := (hf i hil).2 j hj
        rw [Go.WideShapes.add_plain] at g
        rw [← g]
        congr 2
        omega
end
end Go.Proofs.YtflbggehgjllcaaDoor
