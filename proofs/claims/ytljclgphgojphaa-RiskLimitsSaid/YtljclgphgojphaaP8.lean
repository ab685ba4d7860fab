/- A table that came in: what its reading tells of it. -/
import Derived.Test.YtljclgphgojphaaP2
import Derived.SizedLaws
import Derived.Deep.Slices
import Derived.Deep.Fields
import Derived.ChangeSame
import Derived.OpenShut
namespace Go.Proofs.Ytljclgphgojphaa
open Go.RowKit Go.ChangeShapes Go.WideShapes
set_option linter.unusedVariables false

/-- the fields of a currency -/
def curFields : Array Field := #[⟨"Code", 9, 0, false, "", "", 0⟩, ⟨"Rate", 2, 1, false, "", "", 16⟩, ⟨"Haircut", 2, 2, false, "", "", 24⟩]
theorem und30 : Try.prog.underlying 42 = some (.struct curFields) := by kernel_rfl
theorem cellsOf30 : Try.prog.cellsOf 42 = 3 := by kernel_rfl
theorem cellsOf9 : Try.prog.cellsOf 9 = 1 := by kernel_rfl
theorem cellsOf2 : Try.prog.cellsOf 2 = 1 := by kernel_rfl
theorem bytesOf30 : Try.prog.bytesOf 42 = 32 := by kernel_rfl

theorem mem_weightsAll {H : Type} {P : Program} {e : TypeId} {d : DataW H} {n : Nat} (hn : n ∈ d.weights P e) : ∀ {l : List (DataW H)}, d ∈ l → n ∈ DataW.weightsAll P e l
  | x :: r, h => by
    simp only [DataW.weightsAll, List.mem_append]
    rcases List.mem_cons.1 h with rfl | h
    · exact .inl hn
    · exact .inr (mem_weightsAll hn h)

section
variable {H : Type} {enc : TypeId × Value → H} {w : World}

set_option maxRecDepth 100000 in
/-- one currency, read -/
theorem cur_open {fuel : Nat} {cs : List Value} {x : DataW H × List MemPlace} (h : DataW.trod enc Try.prog w 0 (fun _ => true) true fuel 42 cs = some x) :
    ∃ c : Cur, cs = [.string c.code, .int .i64 c.rate, .int .i64 c.cut] ∧ Amt c.rate ∧ Amt c.cut ∧ c.code.size ∈ x.1.weights Try.prog 42 := by
  obtain ⟨xs, n, _, hx, hl, hlen, hf⟩ := DataW.trod_struct und30 h
  rw [cellsOf30] at hl
  match cs, hl with
  | [v0, v1, v2], _ =>
    match xs, hlen with
    | [y0, y1, y2], _ =>
      have h0 := hf 0 ⟨"Code", 9, 0, false, "", "", 0⟩ rfl
      have h1 := hf 1 ⟨"Rate", 2, 1, false, "", "", 16⟩ rfl
      have h2 := hf 2 ⟨"Haircut", 2, 2, false, "", "", 24⟩ rfl
      simp only [cellsOf9, cellsOf2, List.drop_zero, List.drop_succ_cons, List.take_succ_cons, List.take_zero] at h0 h1 h2
      obtain ⟨s, e0, x0, _⟩ := DataW.trod_string Try.underlying9 h0
      obtain ⟨r, e1, x1, w1⟩ := DataW.trod_int Try.underlying2 h1
      obtain ⟨u, e2, x2, w2⟩ := DataW.trod_int Try.underlying2 h2
      simp only [List.cons.injEq, and_true] at e0 e1 e2
      subst e0; subst e1; subst e2
      refine ⟨⟨s, r, u⟩, rfl, bounds_i64 w1, bounds_i64 w2, ?_⟩
      subst hx
      rw [x0]
      simp only [List.map_cons, List.map_nil, DataW.weights, und30, curFields, DataW.weightsEach, List.mem_append]
      refine .inl ?_
      simp only [List.mem_singleton]
      exact (Array.length_toList).symm

set_option maxRecDepth 100000 in
/-- a table that came in -/
theorem tab_open {fuel : Nat} {a : Option Addr} {len cap : Nat} {x : DataW H × List MemPlace} (h : DataW.trod enc Try.prog w 0 (fun _ => true) true fuel 22 (Value.cells (.slice a len cap)).toList = some x)
    (hw : ∀ n ∈ x.1.weights Try.prog 22, n ≤ 140737488351232) : ∃ cs, Tab w a len cs := by
  have hz0 : CurOk Cur.zero := ⟨by decide, ⟨by decide, by decide⟩, ⟨by decide, by decide⟩⟩
  rcases Go.Deep.open_slice Try.underlying22 h with ⟨hcs, _⟩ | ⟨ad, l, c, m, n, D, Pl, hcs, _, hl, hm, hmm, hx, hi⟩
  · simp [Value.cells] at hcs
    obtain ⟨rfl, rfl, rfl⟩ := hcs
    exact ⟨[], rfl, fun i => by rw [show cAt [] i = Cur.zero by simp [cAt]]; exact hz0, by decide, .inl rfl⟩
  · simp [Value.cells] at hcs
    obtain ⟨rfl, rfl, rfl⟩ := hcs
    have hml : len ≤ m := by rw [hmm]; simpa using hl
    subst hx
    have hone : ∀ i, i < len → ∃ c : Cur, CurOk c ∧ w.cell? (ad.add (i * 3)) = some (.string c.code) ∧ w.cell? (ad.add (i * 3 + 1)) = some (.int .i64 c.rate) ∧ w.cell? (ad.add (i * 3 + 2)) = some (.int .i64 c.cut) := by
      intro i hil
      obtain ⟨cs', hc, ht⟩ := hi i (by omega)
      rw [cellsOf30] at hc
      obtain ⟨c, rfl, h1, h2, h3⟩ := cur_open ht
      obtain ⟨_, _, hat⟩ := World.cells?_some hc
      have g0 := hat 0 (by omega)
      have g1 := hat 1 (by omega)
      have g2 := hat 2 (by omega)
      rw [Go.Deep.add_add] at g0 g1 g2
      refine ⟨c, ⟨hw _ ?_, h1, h2⟩, g0, g1, g2⟩
      simp only [DataW.weights, Try.underlying22, List.mem_cons, List.mem_append]
      refine .inr (.inl (mem_weightsAll h3 ?_))
      simp only [List.mem_map, List.mem_range]
      exact ⟨i, hil, rfl⟩
    have hlen : len ≤ 140737488351232 := by
      have h1 : ∀ n ∈ (DataW.slice ((List.range len).map D) ((List.range (m - len)).map fun j => D (len + j))).weights Try.prog 22, n ≤ 140737488351232 := hw
      simp only [DataW.weights, Try.underlying22, List.mem_cons] at h1
      have h2 := h1 _ (.inl rfl)
      rw [bytesOf30] at h2
      simp only [List.length_map, List.length_range] at h2
      omega
    let f : Nat → Cur := fun i => if h : i < len then Classical.choose (hone i h) else Cur.zero
    have hf : ∀ i, i < len → CurOk (f i) ∧ w.cell? (ad.add (i * 3)) = some (.string (f i).code) ∧ w.cell? (ad.add (i * 3 + 1)) = some (.int .i64 (f i).rate) ∧ w.cell? (ad.add (i * 3 + 2)) = some (.int .i64 (f i).cut) := by
      intro i h
      have e : f i = Classical.choose (hone i h) := dif_pos h
      rw [e]
      exact Classical.choose_spec (hone i h)
    have hat : ∀ i, i < len → cAt ((List.range len).map f) i = f i := by
      intro i h
      unfold cAt
      rw [List.getD_eq_getElem?_getD, List.getElem?_map, List.getElem?_range h]
      rfl
    refine ⟨(List.range len).map f, by simp, fun i => ?_, hlen, ?_⟩
    · by_cases h : i < len
      · rw [hat i h]; exact (hf i h).1
      · unfold cAt
        rw [List.getD_eq_getElem?_getD, List.getElem?_eq_none (by simp; omega)]
        exact hz0
    · by_cases h0 : len = 0
      · exact .inl h0
      · obtain ⟨b, off, spot⟩ := ad
        have c0 := (hf 0 (by omega)).2.1
        have hspot : spot = none := by simpa [Addr.add] using World.cell?_spot c0
        subst hspot
        refine .inr ⟨b, off, rfl, ?_, fun i h => ?_⟩
        · have := World.block_lt_of_cell? w _ c0
          rwa [Go.WideShapes.add_plain] at this
        · rw [hat i h]
          obtain ⟨_, g0, g1, g2⟩ := hf i h
          rw [Go.WideShapes.add_plain] at g0 g1 g2
          exact ⟨g0, g1, g2⟩
end
end Go.Proofs.Ytljclgphgojphaa
