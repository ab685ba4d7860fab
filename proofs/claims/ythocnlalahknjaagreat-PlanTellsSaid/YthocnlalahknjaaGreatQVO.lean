/- What came in: instructions, amounts, ticks, rows of amounts, dues: read off what was handed over. -/
import Derived.Test.YthocnlalahknjaaGreatQVab
import Derived.OpenShut
import Derived.ChangeOld
import Derived.SizedLaws
import Derived.Deep.Slices
namespace Go.Proofs.YthocnlalahknjaaGreat.Dd
open Go.RowKit Go.WideShapes
set_option linter.unusedVariables false

theorem mem_weightsAll {H : Type} {P : Program} {e : TypeId} {d : DataW H} {n : Nat} (hn : n ∈ d.weights P e) : ∀ {l : List (DataW H)}, d ∈ l → n ∈ DataW.weightsAll P e l
  | x :: r, h => by
    simp only [DataW.weightsAll, List.mem_append]
    rcases List.mem_cons.1 h with rfl | h
    · exact .inl hn
    · exact .inr (mem_weightsAll hn h)
section
variable {H : Type} {enc : TypeId × Value → H} {w : World}
/-- a row of things of k cells each, read -/
theorem rows_open {α : Type} [Inhabited α] {S E : TypeId} {k : Nat} (cs : α → List Value) (Pr : α → Prop) (hS : Tryz.prog.underlying S = some (.slice E)) (hk : Tryz.prog.cellsOf E = k) (hk0 : 0 < k) (hbb : 1 ≤ Tryz.prog.bytesOf E) (hl : ∀ a, (cs a).length = k)
    (helem : ∀ (fuel : Nat) (l : List Value) (x : DataW H × List MemPlace), DataW.trod enc Tryz.prog w 0 (fun _ => true) true fuel E l = some x → (∀ n ∈ x.1.weights Tryz.prog E, n ≤ 140737488351232) → ∃ a, l = cs a ∧ Pr a)
    {fuel : Nat} {a : Option Addr} {len cap : Nat} {x : DataW H × List MemPlace} (h : DataW.trod enc Tryz.prog w 0 (fun _ => true) true fuel S [.slice a len cap] = some x) (hw : ∀ n ∈ x.1.weights Tryz.prog S, n ≤ 140737488351232) :
    ∃ ds : List α, ds.length = len ∧ len ≤ cap ∧ len ≤ 4611686018427387904 ∧ (∀ d ∈ ds, Pr d) ∧ (len = 0 ∨ ∃ b off, a = some ⟨b, off, none⟩ ∧ b < w.heap.size ∧ ∀ i (hi : i < ds.length) j u, (cs ds[i])[j]? = some u → w.cell? ⟨b, off + i * k + j, none⟩ = some u) := by
  rcases Go.Deep.open_slice hS h with ⟨hcs, _⟩ | ⟨ad, l, c, m, n, D, Pl, hcs, _, hlc, hm, hmm, hx, hi⟩
  · simp at hcs
    obtain ⟨rfl, rfl, rfl⟩ := hcs
    exact ⟨[], rfl, by omega, by omega, fun q hq => (by cases hq), .inl rfl⟩
  · simp at hcs
    obtain ⟨rfl, rfl, rfl⟩ := hcs
    have hml : len ≤ m := by rw [hmm]; simpa using hlc
    have hone : ∀ i, i < len → ∃ d : α, (∀ j, j < k → w.cell? (ad.add (i * k + j)) = (cs d)[j]?) ∧ Pr d := by
      intro i hil
      obtain ⟨cs', hc, ht⟩ := hi i (by omega)
      rw [hk] at hc
      obtain ⟨d, rfl, hq⟩ := helem _ _ _ ht (fun q hq => by
        refine hw q ?_
        subst hx
        simp only [DataW.weights, hS, List.mem_cons, List.mem_append]
        refine .inr (.inl (mem_weightsAll hq ?_))
        simp only [List.mem_map, List.mem_range]
        exact ⟨i, hil, rfl⟩)
      obtain ⟨_, _, hat⟩ := World.cells?_some hc
      refine ⟨d, fun j hj => ?_, hq⟩
      have g := hat j (by first | exact hj | (rw [hl d]; exact hj))
      rw [Go.Deep.add_add] at g
      rw [g]
    let f : Nat → α := fun i => if h : i < len then Classical.choose (hone i h) else default
    have hf : ∀ i, i < len → (∀ j, j < k → w.cell? (ad.add (i * k + j)) = (cs (f i))[j]?) ∧ Pr (f i) := by
      intro i h
      have e : f i = Classical.choose (hone i h) := dif_pos h
      rw [e]
      exact Classical.choose_spec (hone i h)
    have hlen : len ≤ 140737488351232 := by
      subst hx
      simp only [DataW.weights, hS, List.mem_cons] at hw
      have h2 := hw _ (.inl rfl)
      simp only [List.length_map, List.length_range] at h2
      refine Nat.le_trans (Nat.le_trans ?_ (Nat.le_mul_of_pos_right _ hbb)) h2
      omega
    refine ⟨(List.range len).map f, by simp, hlc, by omega, fun q hq => ?_, ?_⟩
    · obtain ⟨i, hi', rfl⟩ := List.mem_map.1 hq
      exact (hf i (List.mem_range.1 hi')).2
    by_cases h0 : len = 0
    · exact .inl h0
    · obtain ⟨b, off, spot⟩ := ad
      have c0 := (hf 0 (by omega)).1 0 hk0
      rw [List.getElem?_eq_getElem (by rw [hl]; exact hk0)] at c0
      have hspot : spot = none := by simpa [Addr.add] using World.cell?_spot c0
      subst hspot
      refine .inr ⟨b, off, rfl, ?_, fun i hi2 j u hu => ?_⟩
      · have := World.block_lt_of_cell? w _ c0
        rwa [Go.WideShapes.add_plain] at this
      · have hil : i < len := by simpa using hi2
        have hj : j < k := by rw [← hl (((List.range len).map f)[i])]; exact (List.getElem?_eq_some_iff.1 hu).1
        have e : ((List.range len).map f)[i] = f i := by simp
        rw [e] at hu
        have g := (hf i hil).1 j hj
        rw [Go.WideShapes.add_plain, hu] at g
        rw [Nat.add_assoc]
        exact g
def dlFields : Array Field := #[⟨"Id", 3, 0, false, "", "", 0⟩, ⟨"A", 3, 1, false, "", "", 8⟩, ⟨"B", 3, 2, false, "", "", 16⟩, ⟨"SellCur", 3, 3, false, "", "", 24⟩, ⟨"BuyCur", 3, 4, false, "", "", 32⟩, ⟨"Sell", 2, 5, false, "", "", 40⟩, ⟨"Buy", 2, 6, false, "", "", 48⟩]
theorem und60 : Tryz.prog.underlying 60 = some (.struct dlFields) := by kernel_rfl
theorem cellsOf60 : Tryz.prog.cellsOf 60 = 7 := by kernel_rfl
theorem cellsOfI3 : Tryz.prog.cellsOf 3 = 1 := by kernel_rfl
theorem cellsOfI2 : Tryz.prog.cellsOf 2 = 1 := by kernel_rfl
theorem cellsOf50 : Tryz.prog.cellsOf 50 = 1 := by kernel_rfl
def duFields : Array Field := #[⟨"Member", 3, 0, false, "", "", 0⟩, ⟨"Cur", 3, 1, false, "", "", 8⟩, ⟨"At", 3, 2, false, "", "", 16⟩, ⟨"Amount", 2, 3, false, "", "", 24⟩]
theorem und39 : Tryz.prog.underlying 39 = some (.struct duFields) := by kernel_rfl
theorem bytesOf60 : Tryz.prog.bytesOf 60 = 56 := by kernel_rfl
theorem bytesOf39 : Tryz.prog.bytesOf 39 = 32 := by kernel_rfl
theorem bytesOf50 : Tryz.prog.bytesOf 50 = 24 := by kernel_rfl
theorem bytesOfI2 : Tryz.prog.bytesOf 2 = 8 := by kernel_rfl
theorem bytesOfI3 : Tryz.prog.bytesOf 3 = 8 := by kernel_rfl
theorem cellsOf39 : Tryz.prog.cellsOf 39 = 4 := by kernel_rfl
def Dl.cs (d : Dl) : List Value := [.int .i64 d.id, .int .i64 d.a, .int .i64 d.b, .int .i64 d.sc, .int .i64 d.bc, .int .i64 d.s, .int .i64 d.t]
set_option maxRecDepth 100000 in
/-- an instruction, read -/
theorem dl_open {fuel : Nat} {cs : List Value} {x : DataW H × List MemPlace} (h : DataW.trod enc Tryz.prog w 0 (fun _ => true) true fuel 60 cs = some x) : ∃ d : Dl, cs = d.cs ∧ d.In := by
  obtain ⟨xs, n, _, hx, hl, hlen, hf⟩ := DataW.trod_struct und60 h
  rw [cellsOf60] at hl
  match cs, hl with
  | [v0, v1, v2, v3, v4, v5, v6], _ =>
    match xs, hlen with
    | [y0, y1, y2, y3, y4, y5, y6], _ =>
      have h0 := hf 0 ⟨"Id", 3, 0, false, "", "", 0⟩ rfl
      have h1 := hf 1 ⟨"A", 3, 1, false, "", "", 8⟩ rfl
      have h2 := hf 2 ⟨"B", 3, 2, false, "", "", 16⟩ rfl
      have h3 := hf 3 ⟨"SellCur", 3, 3, false, "", "", 24⟩ rfl
      have h4 := hf 4 ⟨"BuyCur", 3, 4, false, "", "", 32⟩ rfl
      have h5 := hf 5 ⟨"Sell", 2, 5, false, "", "", 40⟩ rfl
      have h6 := hf 6 ⟨"Buy", 2, 6, false, "", "", 48⟩ rfl
      simp only [cellsOfI3, cellsOfI2, List.drop_zero, List.drop_succ_cons, List.take_succ_cons, List.take_zero] at h0 h1 h2 h3 h4 h5 h6
      obtain ⟨a0, e0, _, w0⟩ := DataW.trod_int Tryz.underlying3 h0
      obtain ⟨a1, e1, _, w1⟩ := DataW.trod_int Tryz.underlying3 h1
      obtain ⟨a2, e2, _, w2⟩ := DataW.trod_int Tryz.underlying3 h2
      obtain ⟨a3, e3, _, w3⟩ := DataW.trod_int Tryz.underlying3 h3
      obtain ⟨a4, e4, _, w4⟩ := DataW.trod_int Tryz.underlying3 h4
      obtain ⟨a5, e5, _, w5⟩ := DataW.trod_int Tryz.underlying2 h5
      obtain ⟨a6, e6, _, w6⟩ := DataW.trod_int Tryz.underlying2 h6
      simp only [List.cons.injEq, and_true] at e0 e1 e2 e3 e4 e5 e6
      subst e0; subst e1; subst e2; subst e3; subst e4; subst e5; subst e6
      exact ⟨⟨a0, a1, a2, a3, a4, a5, a6⟩, rfl, ⟨bounds_i64 w0, bounds_i64 w1, bounds_i64 w2, bounds_i64 w3, bounds_i64 w4, bounds_i64 w5, bounds_i64 w6⟩⟩
set_option maxRecDepth 100000 in
/-- a due, read -/
theorem du_open {fuel : Nat} {cs : List Value} {x : DataW H × List MemPlace} (h : DataW.trod enc Tryz.prog w 0 (fun _ => true) true fuel 39 cs = some x) : ∃ d : Du, cs = d.cs ∧ DuIn d := by
  obtain ⟨xs, n, _, hx, hl, hlen, hf⟩ := DataW.trod_struct und39 h
  rw [cellsOf39] at hl
  match cs, hl with
  | [v0, v1, v2, v3], _ =>
    match xs, hlen with
    | [y0, y1, y2, y3], _ =>
      have h0 := hf 0 ⟨"Member", 3, 0, false, "", "", 0⟩ rfl
      have h1 := hf 1 ⟨"Cur", 3, 1, false, "", "", 8⟩ rfl
      have h2 := hf 2 ⟨"At", 3, 2, false, "", "", 16⟩ rfl
      have h3 := hf 3 ⟨"Amount", 2, 3, false, "", "", 24⟩ rfl
      simp only [cellsOfI3, cellsOfI2, List.drop_zero, List.drop_succ_cons, List.take_succ_cons, List.take_zero] at h0 h1 h2 h3
      obtain ⟨a0, e0, _, w0⟩ := DataW.trod_int Tryz.underlying3 h0
      obtain ⟨a1, e1, _, w1⟩ := DataW.trod_int Tryz.underlying3 h1
      obtain ⟨a2, e2, _, w2⟩ := DataW.trod_int Tryz.underlying3 h2
      obtain ⟨a3, e3, _, w3⟩ := DataW.trod_int Tryz.underlying2 h3
      simp only [List.cons.injEq, and_true] at e0 e1 e2 e3
      subst e0; subst e1; subst e2; subst e3
      exact ⟨⟨a0, a1, a2, a3⟩, rfl, ⟨bounds_i64 w0, bounds_i64 w1, bounds_i64 w2, bounds_i64 w3⟩⟩
theorem dls_open {fuel : Nat} {a : Option Addr} {len cap : Nat} {x : DataW H × List MemPlace} (h : DataW.trod enc Tryz.prog w 0 (fun _ => true) true fuel 22 [.slice a len cap] = some x) (hw : ∀ n ∈ x.1.weights Tryz.prog 22, n ≤ 140737488351232) :
    ∃ ds : List Dl, DlRow w a len ds ∧ len ≤ 4611686018427387904 := by
  haveI : Inhabited Dl := ⟨⟨0, 0, 0, 0, 0, 0, 0⟩⟩
  obtain ⟨ds, h1, _, h2, h3, h4⟩ := rows_open Dl.cs Dl.In Tryz.underlying22 cellsOf60 (by omega) (by rw [bytesOf60]; omega) (fun _ => rfl) (fun _ _ _ ht _ => dl_open ht) h hw
  refine ⟨ds, ⟨h1, h3, h4.imp id ?_⟩, h2⟩
  rintro ⟨b, off, rfl, hlt, hc⟩
  refine ⟨b, off, rfl, hlt, fun i d hd => ?_⟩
  obtain ⟨hi, rfl⟩ := List.getElem?_eq_some_iff.1 hd
  exact ⟨hc i hi 0 _ rfl, hc i hi 1 _ rfl, hc i hi 2 _ rfl, hc i hi 3 _ rfl, hc i hi 4 _ rfl, hc i hi 5 _ rfl, hc i hi 6 _ rfl⟩
theorem dus_open {fuel : Nat} {a : Option Addr} {len cap : Nat} {x : DataW H × List MemPlace} (h : DataW.trod enc Tryz.prog w 0 (fun _ => true) true fuel 36 [.slice a len cap] = some x) (hw : ∀ n ∈ x.1.weights Tryz.prog 36, n ≤ 140737488351232) :
    ∃ l : List Du, l.length = len ∧ USeq w (.slice a len cap) l ∧ (∀ d ∈ l, DuIn d) ∧ len ≤ 4611686018427387904 := by
  obtain ⟨ds, h1, hc, h2, h3, h4⟩ := rows_open Du.cs DuIn Tryz.underlying36 cellsOf39 (by omega) (by rw [bytesOf39]; omega) (fun _ => rfl) (fun _ _ _ ht _ => du_open ht) h hw
  refine ⟨ds, h1, ⟨a, cap, by rw [h1], by omega, ?_⟩, h3, h2⟩
  rcases h4 with h4 | ⟨b, off, rfl, hlt, hcc⟩
  · exact .inl (List.length_eq_zero_iff.1 (by omega))
  · exact .inr ⟨b, off, rfl, hlt, hcc⟩
theorem seq_open {S E : TypeId} (hS : Tryz.prog.underlying S = some (.slice E)) (hE : Tryz.prog.underlying E = some (.int .i64)) (hk : Tryz.prog.cellsOf E = 1) (hbb : 1 ≤ Tryz.prog.bytesOf E) {fuel : Nat} {a : Option Addr} {len cap : Nat} {x : DataW H × List MemPlace}
    (h : DataW.trod enc Tryz.prog w 0 (fun _ => true) true fuel S [.slice a len cap] = some x) (hw : ∀ n ∈ x.1.weights Tryz.prog S, n ≤ 140737488351232) : ∃ zs : List Int, Seq64 w a len zs := by
  obtain ⟨ds, h1, _, h2, h3, h4⟩ := rows_open (fun z : Int => [Value.int .i64 z]) Amt hS hk (by omega) hbb (fun _ => rfl) (fun _ l _ ht _ => by
    obtain ⟨z, e, _, hw⟩ := DataW.trod_int hE ht
    exact ⟨z, e, bounds_i64 hw⟩) h hw
  refine ⟨ds, h1, amt_all h3, h2, h4.imp id ?_⟩
  rintro ⟨b, off, rfl, hlt, hc⟩
  refine ⟨b, off, rfl, hlt, fun i hi => ?_⟩
  have := hc i (by omega) 0 _ rfl
  rw [Nat.mul_one, Nat.add_zero] at this
  rw [this, List.getD_eq_getElem?_getD, List.getElem?_eq_getElem (by omega)]; rfl
/-- a slice in a row, and what it holds -/
structure Sl where
  p : Option Addr
  n : Nat
  c : Nat
  zs : List Int
instance : Inhabited Sl := ⟨⟨none, 0, 0, []⟩⟩
theorem nets_open {fuel : Nat} {a : Option Addr} {len cap : Nat} {x : DataW H × List MemPlace} (h : DataW.trod enc Tryz.prog w 0 (fun _ => true) true fuel 28 [.slice a len cap] = some x) (hw : ∀ n ∈ x.1.weights Tryz.prog 28, n ≤ 140737488351232) :
    ∃ rows : List (List Int), rows.length = len ∧ NSeq w (.slice a len cap) rows ∧ (∀ r ∈ rows, r.length ≤ 4611686018427387904) ∧ len ≤ 4611686018427387904 := by
  obtain ⟨ds, h1, _, h2, h3, h4⟩ := rows_open (fun s : Sl => [Value.slice s.p s.n s.c]) (fun s => Seq64 w s.p s.n s.zs) Tryz.underlying28 cellsOf50 (by omega) (by rw [bytesOf50]; omega) (fun _ => rfl) (fun _ l _ ht hwi => by
    rcases Go.Deep.open_slice Tryz.underlying50 ht with ⟨hcs, _⟩ | ⟨ad, l1, c1, m, n, D, Pl, hcs, _⟩
    · subst hcs
      obtain ⟨zs, hz⟩ := seq_open Tryz.underlying50 Tryz.underlying2 cellsOfI2 (by rw [bytesOfI2]; omega) ht hwi
      exact ⟨⟨none, 0, 0, zs⟩, rfl, hz⟩
    · subst hcs
      obtain ⟨zs, hz⟩ := seq_open Tryz.underlying50 Tryz.underlying2 cellsOfI2 (by rw [bytesOfI2]; omega) ht hwi
      exact ⟨⟨some ad, l1, c1, zs⟩, rfl, hz⟩) h hw
  refine ⟨ds.map (·.zs), by simpa using h1, ⟨a, cap, by simp [h1], ?_⟩, fun r hr => ?_, h2⟩
  · rcases h4 with h4 | ⟨b, off, rfl, hlt, hc⟩
    · exact .inl (by rw [List.map_eq_nil_iff]; exact List.length_eq_zero_iff.1 (by omega))
    · refine .inr ⟨b, off, rfl, hlt, fun i hi => ?_⟩
      have hi2 : i < ds.length := by simpa using hi
      have := hc i hi2 0 _ rfl
      rw [Nat.mul_one, Nat.add_zero] at this
      have hs := h3 ds[i] (List.getElem_mem hi2)
      have e : (ds.map (·.zs))[i] = ds[i].zs := by simp
      have e2 : ds[i].n = ds[i].zs.length := hs.1.symm
      rw [e, ← e2]
      exact ⟨ds[i].p, ds[i].c, this, hs⟩
  · obtain ⟨s, hs, rfl⟩ := List.mem_map.1 hr
    have := h3 s hs
    rw [this.1]; exact this.2.2.1
end
end Go.Proofs.YthocnlalahknjaaGreat.Dd
