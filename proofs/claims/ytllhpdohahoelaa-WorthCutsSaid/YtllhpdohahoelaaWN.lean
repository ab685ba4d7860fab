/- What comes in: postings, operations; the contract of the law's large. -/
import Derived.Test.YtllhpdohahoelaaWL
import Derived.Deep.Slices
import Derived.Test.YtllhpdohahoelaaRows
import Derived.ProofKit
import Derived.OpenShut
namespace Go.Proofs.Ytllhpdohahoelaa
open Go.RowKit Go.ChangeShapes Go.WideShapes Go.ChangeAt
set_option linter.unusedVariables false

def pstFields : Array Field := #[⟨"Member", 3, 0, false, "", "", 0⟩, ⟨"Cur", 3, 1, false, "", "", 8⟩, ⟨"Amount", 2, 2, false, "", "", 16⟩]
theorem und65 : Try.prog.underlying 65 = some (.struct pstFields) := by kernel_rfl
theorem cellsOfPst : Try.prog.cellsOf 65 = 3 := by kernel_rfl
def wopFields : Array Field := #[⟨"Do", 3, 0, false, "", "", 0⟩, ⟨"Member", 3, 1, false, "", "", 8⟩, ⟨"Cur", 3, 2, false, "", "", 16⟩, ⟨"Amount", 2, 3, false, "", "", 24⟩, ⟨"Batch", 24, 4, false, "", "", 32⟩]
theorem und40 : Try.prog.underlying 40 = some (.struct wopFields) := by kernel_rfl
theorem cellsOfWop : Try.prog.cellsOf 40 = 5 := by kernel_rfl
theorem cellsOfInt3 : Try.prog.cellsOf 3 = 1 := by kernel_rfl
theorem cellsOfInt2 : Try.prog.cellsOf 2 = 1 := by kernel_rfl
theorem cellsOfPsts : Try.prog.cellsOf 24 = 1 := by kernel_rfl
theorem bytesOfPst : Try.prog.bytesOf 65 = 24 := by kernel_rfl
theorem bytesOfWop : Try.prog.bytesOf 40 = 56 := by kernel_rfl
theorem mem_weightsAllL {H : Type} {P : Program} {e : TypeId} {d : DataW H} {n : Nat} (hn : n ∈ d.weights P e) : ∀ {l : List (DataW H)}, d ∈ l → n ∈ DataW.weightsAll P e l
  | x :: r, h => by
    simp only [DataW.weightsAll, List.mem_append]
    rcases List.mem_cons.1 h with rfl | h
    · exact .inl hn
    · exact .inr (mem_weightsAllL hn h)
/-- a row of operations that is read -/
def OpsW (w : World) (p : Option Addr) (len : Nat) (ops : List WOp) : Prop :=
  ops.length = len ∧ len ≤ 140737488351232 ∧ (∀ x ∈ ops, x.Ok w ∧ x.len ≤ 140737488351232) ∧ (len = 0 ∨ ∃ b off, p = some ⟨b, off, none⟩ ∧ b < w.heap.size ∧ ∀ i x, ops[i]? = some x → ∀ j, j < 5 → w.cell? ⟨b, off + i * 5 + j, none⟩ = x.arr[j]?)
theorem WOp.Ok.kept {x : WOp} {w w' : World} (h : x.Ok w) (hb : Below w.heap.size w w') : x.Ok w' := ⟨h.a, h.b.kept hb⟩
theorem OpsW.kept {w w' : World} {p : Option Addr} {len : Nat} {ops : List WOp} (h : OpsW w p len ops) (hb : Below w.heap.size w w') : OpsW w' p len ops := by
  obtain ⟨h1, h2, h3, h4⟩ := h
  refine ⟨h1, h2, fun x hx => ⟨(h3 x hx).1.kept hb, (h3 x hx).2⟩, h4.imp id ?_⟩
  rintro ⟨b, off, rfl, hlt, hc⟩
  exact ⟨b, off, rfl, Nat.lt_of_lt_of_le hlt hb.size, fun i x hx j hj => (hb.cell (p := ⟨b, off + i * 5 + j, none⟩) hlt).trans (hc i x hx j hj)⟩
theorem OpsW.at {w : World} {p : Option Addr} {len : Nat} {ops : List WOp} (h : OpsW w p len ops) {k : Nat} {x : WOp} (hx : ops[k]? = some x) : ∃ b off, p = some ⟨b, off, none⟩ ∧ w.cell? ⟨b, off + k * 5, none⟩ = some (.int .i64 x.Do) ∧ w.cell? ⟨b, off + k * 5 + 1, none⟩ = some (.int .i64 x.m) ∧
    w.cell? ⟨b, off + k * 5 + 2, none⟩ = some (.int .i64 x.c) ∧ w.cell? ⟨b, off + k * 5 + 3, none⟩ = some (.int .i64 x.a) ∧ w.cell? ⟨b, off + k * 5 + 4, none⟩ = some (.slice x.p x.len x.cap) := by
  obtain ⟨h1, _, _, h4⟩ := h
  have hk := (List.getElem?_eq_some_iff.1 hx).1
  obtain ⟨b, off, rfl, _, hc⟩ := h4.resolve_left (by omega)
  exact ⟨b, off, rfl, hc k x hx 0 (by omega), hc k x hx 1 (by omega), hc k x hx 2 (by omega), hc k x hx 3 (by omega), hc k x hx 4 (by omega)⟩
section
variable {H : Type} {enc : TypeId × Value → H} {w : World}
set_option maxRecDepth 100000 in
/-- a posting, read -/
theorem pst_open {fuel : Nat} {cs : List Value} {x : DataW H × List MemPlace} (h : DataW.trod enc Try.prog w 0 (fun _ => true) true fuel 65 cs = some x) :
    ∃ q : Pst, cs = [.int .i64 q.m, .int .i64 q.c, .int .i64 q.a] ∧ In64 q.m ∧ In64 q.c ∧ In64 q.a := by
  obtain ⟨xs, n, _, hx, hl, hlen, hf⟩ := DataW.trod_struct und65 h
  rw [cellsOfPst] at hl
  match cs, hl with
  | [v0, v1, v2], _ =>
    match xs, hlen with
    | [y0, y1, y2], _ =>
      have h0 := hf 0 ⟨"Member", 3, 0, false, "", "", 0⟩ rfl
      have h1 := hf 1 ⟨"Cur", 3, 1, false, "", "", 8⟩ rfl
      have h2 := hf 2 ⟨"Amount", 2, 2, false, "", "", 16⟩ rfl
      simp only [cellsOfInt3, cellsOfInt2, List.drop_zero, List.drop_succ_cons, List.take_succ_cons, List.take_zero] at h0 h1 h2
      obtain ⟨a0, e0, _, w0⟩ := DataW.trod_int Try.underlying3 h0
      obtain ⟨a1, e1, _, w1⟩ := DataW.trod_int Try.underlying3 h1
      obtain ⟨a2, e2, _, w2⟩ := DataW.trod_int Try.underlying2 h2
      simp only [List.cons.injEq, and_true] at e0 e1 e2
      subst e0; subst e1; subst e2
      exact ⟨⟨a0, a1, a2⟩, rfl, bounds_i64 w0, bounds_i64 w1, bounds_i64 w2⟩
set_option maxRecDepth 100000 in
/-- postings, read -/
theorem prow_open {fuel : Nat} {a : Option Addr} {len cap : Nat} {x : DataW H × List MemPlace} (h : DataW.trod enc Try.prog w 0 (fun _ => true) true fuel 24 [.slice a len cap] = some x) (hw : ∀ n ∈ x.1.weights Try.prog 24, n ≤ 140737488351232) :
    ∃ ps : List Pst, PRow w a len ps ∧ len ≤ 140737488351232 := by
  rcases Go.Deep.open_slice Try.underlying24 h with ⟨hcs, _⟩ | ⟨ad, l, c, m, n, D, Pl, hcs, _, hl, hm, hmm, hx, hi⟩
  · simp at hcs
    obtain ⟨rfl, rfl, rfl⟩ := hcs
    exact ⟨[], ⟨rfl, fun q hq => (by cases hq), .inl rfl⟩, by omega⟩
  · simp at hcs
    obtain ⟨rfl, rfl, rfl⟩ := hcs
    have hml : len ≤ m := by rw [hmm]; simpa using hl
    have hone : ∀ i, i < len → ∃ q : Pst, (w.cell? (ad.add (i * 3)) = some (.int .i64 q.m) ∧ w.cell? (ad.add (i * 3 + 1)) = some (.int .i64 q.c) ∧ w.cell? (ad.add (i * 3 + 2)) = some (.int .i64 q.a)) ∧ In64 q.m ∧ In64 q.c ∧ In64 q.a := by
      intro i hil
      obtain ⟨cs', hc, ht⟩ := hi i (by omega)
      rw [cellsOfPst] at hc
      obtain ⟨q, rfl, hq⟩ := pst_open ht
      obtain ⟨_, _, hat⟩ := World.cells?_some hc
      have g0 := hat 0 (by omega)
      have g1 := hat 1 (by omega)
      have g2 := hat 2 (by omega)
      rw [Go.Deep.add_add] at g0 g1 g2
      exact ⟨q, ⟨g0, g1, g2⟩, hq⟩
    let f : Nat → Pst := fun i => if h : i < len then Classical.choose (hone i h) else ⟨0, 0, 0⟩
    have hf : ∀ i, i < len → (w.cell? (ad.add (i * 3)) = some (.int .i64 (f i).m) ∧ w.cell? (ad.add (i * 3 + 1)) = some (.int .i64 (f i).c) ∧ w.cell? (ad.add (i * 3 + 2)) = some (.int .i64 (f i).a)) ∧ In64 (f i).m ∧ In64 (f i).c ∧ In64 (f i).a := by
      intro i h
      have e : f i = Classical.choose (hone i h) := dif_pos h
      rw [e]
      exact Classical.choose_spec (hone i h)
    subst hx
    have hmx : len ≤ 140737488351232 := by
      have h1 : ∀ n ∈ (DataW.slice ((List.range len).map D) ((List.range (m - len)).map fun j => D (len + j))).weights Try.prog 24, n ≤ 140737488351232 := hw
      simp only [DataW.weights, Try.underlying24, List.mem_cons] at h1
      have h2 := h1 _ (.inl rfl)
      rw [bytesOfPst] at h2
      simp only [List.length_map, List.length_range] at h2
      omega
    refine ⟨(List.range len).map f, ⟨by simp, fun q hq => ?_, ?_⟩, hmx⟩
    · obtain ⟨i, hi', rfl⟩ := List.mem_map.1 hq
      exact (hf i (List.mem_range.1 hi')).2
    by_cases h0 : len = 0
    · exact .inl h0
    · obtain ⟨b, off, spot⟩ := ad
      have c0 := (hf 0 (by omega)).1.1
      have hspot : spot = none := by simpa [Addr.add] using World.cell?_spot c0
      subst hspot
      refine .inr ⟨b, off, rfl, ?_, fun i q hq => ?_⟩
      · have := World.block_lt_of_cell? w _ c0
        rwa [Go.WideShapes.add_plain] at this
      · have hil : i < len := by have := (List.getElem?_eq_some_iff.1 hq).1; simpa using this
        rw [List.getElem?_map, List.getElem?_range hil] at hq
        injection hq with hq
        subst hq
        obtain ⟨⟨g0, g1, g2⟩, _⟩ := hf i hil
        rw [Go.WideShapes.add_plain] at g0 g1 g2
        exact ⟨g0, g1, g2⟩
set_option maxRecDepth 100000 in
/-- one operation, read -/
theorem wop_open {fuel : Nat} {cs : List Value} {x : DataW H × List MemPlace} (h : DataW.trod enc Try.prog w 0 (fun _ => true) true fuel 40 cs = some x) (hw : ∀ n ∈ x.1.weights Try.prog 40, n ≤ 140737488351232) :
    ∃ c : WOp, cs = c.arr.toList ∧ c.Ok w ∧ c.len ≤ 140737488351232 := by
  obtain ⟨xs, n, _, hx, hl, hlen, hf⟩ := DataW.trod_struct und40 h
  rw [cellsOfWop] at hl
  match cs, hl with
  | [v0, v1, v2, v3, v4], _ =>
    match xs, hlen with
    | [y0, y1, y2, y3, y4], _ =>
      have h0 := hf 0 ⟨"Do", 3, 0, false, "", "", 0⟩ rfl
      have h1 := hf 1 ⟨"Member", 3, 1, false, "", "", 8⟩ rfl
      have h2 := hf 2 ⟨"Cur", 3, 2, false, "", "", 16⟩ rfl
      have h3 := hf 3 ⟨"Amount", 2, 3, false, "", "", 24⟩ rfl
      have h4 := hf 4 ⟨"Batch", 24, 4, false, "", "", 32⟩ rfl
      simp only [cellsOfInt3, cellsOfInt2, cellsOfPsts, List.drop_zero, List.drop_succ_cons, List.take_succ_cons, List.take_zero] at h0 h1 h2 h3 h4
      obtain ⟨a0, e0, _, w0⟩ := DataW.trod_int Try.underlying3 h0
      obtain ⟨a1, e1, _, w1⟩ := DataW.trod_int Try.underlying3 h1
      obtain ⟨a2, e2, _, w2⟩ := DataW.trod_int Try.underlying3 h2
      obtain ⟨a3, e3, _, w3⟩ := DataW.trod_int Try.underlying2 h3
      simp only [List.cons.injEq, and_true] at e0 e1 e2 e3
      subst e0; subst e1; subst e2; subst e3
      obtain ⟨p, len, cap, rfl⟩ : ∃ p len cap, v4 = Value.slice p len cap := by
        rcases Go.Deep.open_slice Try.underlying24 h4 with ⟨hcs, _⟩ | ⟨ad, l, c, m, n, D, Pl, hcs, _⟩
        · exact ⟨none, 0, 0, by simpa using hcs⟩
        · exact ⟨some ad, l, c, by simpa using hcs⟩
      obtain ⟨ps, hp, hn⟩ := prow_open h4 (fun n hn => hw n (by
        subst hx
        simp only [List.map_cons, List.map_nil, DataW.weights, und40, wopFields, DataW.weightsEach, List.mem_append]
        exact .inr (.inr (.inr (.inr (.inl hn))))))
      exact ⟨⟨a0, a1, a2, a3, p, len, cap, ps⟩, rfl, ⟨bounds_i64 w3, hp⟩, hn⟩
set_option maxRecDepth 100000 in
/-- operations that came in -/
theorem wops_open {fuel : Nat} {a : Option Addr} {len cap : Nat} {x : DataW H × List MemPlace} (h : DataW.trod enc Try.prog w 0 (fun _ => true) true fuel 23 (Value.cells (.slice a len cap)).toList = some x)
    (hw : ∀ n ∈ x.1.weights Try.prog 23, n ≤ 140737488351232) : ∃ ops, OpsW w a len ops := by
  rcases Go.Deep.open_slice Try.underlying23 h with ⟨hcs, _⟩ | ⟨ad, l, c, m, n, D, Pl, hcs, _, hl, hm, hmm, hx, hi⟩
  · simp [Value.cells] at hcs
    obtain ⟨rfl, rfl, rfl⟩ := hcs
    exact ⟨[], rfl, by decide, fun x hx => (by cases hx), .inl rfl⟩
  · simp [Value.cells] at hcs
    obtain ⟨rfl, rfl, rfl⟩ := hcs
    have hml : len ≤ m := by rw [hmm]; simpa using hl
    subst hx
    have hone : ∀ i, i < len → ∃ c : WOp, (c.Ok w ∧ c.len ≤ 140737488351232) ∧ ∀ j, j < 5 → w.cell? (ad.add (i * 5 + j)) = c.arr[j]? := by
      intro i hil
      obtain ⟨cs', hc, ht⟩ := hi i (by omega)
      rw [cellsOfWop] at hc
      obtain ⟨c, rfl, h1, h2⟩ := wop_open ht (fun n hn => hw n (by
        simp only [DataW.weights, Try.underlying23, List.mem_cons, List.mem_append]
        refine .inr (.inl (mem_weightsAllL hn ?_))
        simp only [List.mem_map, List.mem_range]
        exact ⟨i, hil, rfl⟩))
      obtain ⟨_, _, hat⟩ := World.cells?_some hc
      refine ⟨c, ⟨h1, h2⟩, fun j hj => ?_⟩
      have g := hat j hj
      rw [Go.Deep.add_add] at g
      rw [g]
      simp
    have hmx : len ≤ 140737488351232 := by
      have h1 : ∀ n ∈ (DataW.slice ((List.range len).map D) ((List.range (m - len)).map fun j => D (len + j))).weights Try.prog 23, n ≤ 140737488351232 := hw
      simp only [DataW.weights, Try.underlying23, List.mem_cons] at h1
      have h2 := h1 _ (.inl rfl)
      rw [bytesOfWop] at h2
      simp only [List.length_map, List.length_range] at h2
      omega
    let f : Nat → WOp := fun i => if h : i < len then Classical.choose (hone i h) else ⟨0, 0, 0, 0, none, 0, 0, []⟩
    have hf : ∀ i, i < len → ((f i).Ok w ∧ (f i).len ≤ 140737488351232) ∧ ∀ j, j < 5 → w.cell? (ad.add (i * 5 + j)) = (f i).arr[j]? := by
      intro i h
      have e : f i = Classical.choose (hone i h) := dif_pos h
      rw [e]
      exact Classical.choose_spec (hone i h)
    refine ⟨(List.range len).map f, by simp, hmx, fun y hy => ?_, ?_⟩
    · obtain ⟨i, hi', rfl⟩ := List.mem_map.1 hy
      exact (hf i (List.mem_range.1 hi')).1
    by_cases h0 : len = 0
    · exact .inl h0
    · obtain ⟨b, off, spot⟩ := ad
      have c0 := (hf 0 (by omega)).2 0 (by omega)
      have c1 : w.cell? ((⟨b, off, spot⟩ : Addr).add (0 * 5 + 0)) = some (.int .i64 (f 0).Do) := c0
      have hspot : spot = none := by simpa [Addr.add] using World.cell?_spot c1
      subst hspot
      refine .inr ⟨b, off, rfl, ?_, fun i y hy j hj => ?_⟩
      · have := World.block_lt_of_cell? w _ c1
        rwa [Go.WideShapes.add_plain] at this
      · have hil : i < len := by have := (List.getElem?_eq_some_iff.1 hy).1; simpa using this
        rw [List.getElem?_map, List.getElem?_range hil] at hy
        injection hy with hy
        subst hy
        have g := (hf i hil).2 j hj
        rw [Go.WideShapes.add_plain] at g
        rw [← g]
        congr 2
        omega
end
/-- are there too many? -/
def manyO (ops : List WOp) : Bool := ops.any (fun x => decide (20 < x.len)) || decide (30 < ops.length)
set_option maxHeartbeats 2000000 in
set_option maxRecDepth 100000 in
theorem large_any (p : Option Addr) (len cap : Nat) (ops : List WOp) (w : World) (h : OpsW w p len ops) :
    Calls Try.prog 7 #[.slice p len cap] w fun e w' => e = .returned (.bool (manyO ops)) ∧ w = w' := by
  obtain ⟨h1, h2, h3, h4⟩ := h
  go_enter Try.func7, Try.ntmps7
  go_wp2_with fail
  go_loop [6] (fun i => ∃ k : Nat, k ≤ len ∧ i = .int .i64 k ∧ Hid (∀ j x, j < k → ops[j]? = some x → x.len ≤ 20)) (fun i => len - (intOf i).toNat)
  case atStart => exact ⟨0, by omega, rfl, Lib.hid (fun j x h => by omega)⟩
  case round =>
    obtain ⟨k, hk, rfl, hA⟩ := hrel
    by_cases hkn : k < len
    · have kz : (k : Int) < (len : Int) := by omega
      obtain ⟨b, off, rfl, hblt, hcell⟩ := h4.resolve_left (by omega)
      obtain ⟨x, hx⟩ : ∃ x, ops[k]? = some x := ⟨_, List.getElem?_eq_getElem (by omega)⟩
      have c4 : w.cell? ⟨b, off + k * 5 + 4, none⟩ = some (.slice x.p x.len x.cap) := hcell k x hx 4 (by omega)
      clear hcell h4
      by_cases h30 : 20 < x.len
      · have hz : (20 : Int) < (x.len : Int) := by omega
        have hm : manyO ops = true := by
          unfold manyO
          rw [Bool.or_eq_true]
          exact .inl (List.any_eq_true.2 ⟨x, List.mem_of_getElem? hx, decide_eq_true h30⟩)
        replace hm := Lib.hid hm
        go_wp2_with fail
        go_ret
        exact ⟨by rw [hm.out]; rfl, rfl⟩
      · have hz : ¬ (20 : Int) < (x.len : Int) := by omega
        have hA2 : Hid (∀ j x, j < k + 1 → ops[j]? = some x → x.len ≤ 20) := Lib.hid fun j y hj hy => by
          by_cases e : j = k
          · subst e; rw [hx] at hy; injection hy with hy; subst hy; omega
          · exact hA.out j y (by omega) hy
        go_wp2_with fail
        go_round
        case rel => exact ⟨k + 1, by omega, by go_num, hA2⟩
        case measure => simp [intOf]; omega
    · obtain rfl : k = len := by omega
      have kz : ¬ (k : Int) < (k : Int) := by omega
      have hany : ops.any (fun x => decide (20 < x.len)) = false := by
        rw [List.any_eq_false]
        intro x hx
        obtain ⟨j, hj⟩ := List.getElem?_of_mem hx
        have := hA.out j x (by have := (List.getElem?_eq_some_iff.1 hj).1; omega) hj
        simp
        omega
      have hm : manyO ops = decide ((30 : Int) < (k : Int)) := by
        unfold manyO
        rw [hany, h1, Bool.false_or]
        exact decide_eq_decide.2 (by omega)
      replace hm := Lib.hid hm
      replace hany := Lib.hid hany
      go_wp2_with fail
      go_ret
      exact ⟨by rw [hm.out]; rfl, rfl⟩
theorem many_len {ops : List WOp} (h : manyO ops = false) : ops.length ≤ 30 := by
  unfold manyO at h
  simp only [Bool.or_eq_false_iff, decide_eq_false_iff_not] at h
  omega
theorem many_one {ops : List WOp} (h : manyO ops = false) {x : WOp} (hx : x ∈ ops) : x.len ≤ 20 := by
  unfold manyO at h
  simp only [Bool.or_eq_false_iff, List.any_eq_false, decide_eq_true_eq] at h
  have := h.1 x hx
  omega
end Go.Proofs.Ytllhpdohahoelaa
