/- Operations of a journal that came in; the law's size. -/
import Derived.Test.YtidofjjghbhaaaaJR3
import Derived.SizedLaws
import Derived.Deep.Slices
import Derived.Deep.Fields
import Derived.ChangeSame
import Derived.OpenShut
namespace Go.Proofs.Ytidofjjghbhaaaa
open Go.RowKit Go.ChangeShapes Go.WideShapes
set_option linter.unusedVariables false

/-- an operation -/
structure JOp where
  Do : Int
  N : Int
  Bs : ByteArray
  K : Nat → Int
structure JOp.Ok (x : JOp) : Prop where
  n : x.N ≤ 9223372036854775807
  k : ∀ i, x.K i ≤ 9223372036854775807
def JOp.arr (x : JOp) : Array Value := #[.int .i64 x.Do, .int .i64 x.N, .string x.Bs, .int .i64 (x.K 0), .int .i64 (x.K 1), .int .i64 (x.K 2), .int .i64 (x.K 3)]
/-- a row of operations, in a world -/
def JopRow (w : World) (p : Option Addr) (len : Nat) (ops : Nat → JOp) : Prop :=
  (∀ i, (ops i).Ok ∧ (ops i).Bs.size ≤ 140737488351232) ∧ len ≤ 140737488351232 ∧
    (len = 0 ∨ ∃ b off, p = some ⟨b, off, none⟩ ∧ b < w.heap.size ∧ ∀ i, i < len → ∀ j, j < 7 → w.cell? ⟨b, off + i * 7 + j, none⟩ = (ops i).arr[j]?)
theorem JopRow.kept {w w' : World} {p : Option Addr} {len : Nat} {ops : Nat → JOp} (h : JopRow w p len ops) (hb : Below w.heap.size w w') : JopRow w' p len ops := by
  obtain ⟨h1, h2, h3⟩ := h
  refine ⟨h1, h2, ?_⟩
  rcases h3 with h3 | ⟨b, off, e, hlt, hc⟩
  · exact .inl h3
  · exact .inr ⟨b, off, e, Nat.lt_of_lt_of_le hlt hb.size, fun i hi j hj => (hb.cell (p := ⟨b, off + i * 7 + j, none⟩) hlt).trans (hc i hi j hj)⟩

/-- the fields of an operation -/
def jopFields : Array Field := #[⟨"Do", 3, 0, false, "", "", 0⟩, ⟨"N", 3, 1, false, "", "", 8⟩, ⟨"B", 9, 2, false, "", "", 16⟩, ⟨"Kept", 42, 3, false, "", "", 32⟩]
theorem und44 : Try.prog.underlying 44 = some (.struct jopFields) := by kernel_rfl
theorem cellsOfOp : Try.prog.cellsOf 44 = 7 := by kernel_rfl
theorem cellsOfFour : Try.prog.cellsOf 42 = 4 := by kernel_rfl
theorem cellsOfText : Try.prog.cellsOf 9 = 1 := by kernel_rfl
theorem cellsOfInt : Try.prog.cellsOf 3 = 1 := by kernel_rfl
theorem bytesOfOp : Try.prog.bytesOf 44 = 64 := by kernel_rfl

theorem mem_weightsAllJ {H : Type} {P : Program} {e : TypeId} {d : DataW H} {n : Nat} (hn : n ∈ d.weights P e) : ∀ {l : List (DataW H)}, d ∈ l → n ∈ DataW.weightsAll P e l
  | x :: r, h => by
    simp only [DataW.weightsAll, List.mem_append]
    rcases List.mem_cons.1 h with rfl | h
    · exact .inl hn
    · exact .inr (mem_weightsAllJ hn h)

section
variable {H : Type} {enc : TypeId × Value → H} {w : World}

set_option maxRecDepth 100000 in
/-- four ints, read -/
theorem four_openJ {fuel : Nat} {cs : List Value} {x : DataW H × List MemPlace} (h : DataW.trod enc Try.prog w 0 (fun _ => true) true fuel 42 cs = some x) :
    ∃ K : Nat → Int, cs = [.int .i64 (K 0), .int .i64 (K 1), .int .i64 (K 2), .int .i64 (K 3)] ∧ ∀ i, K i ≤ 9223372036854775807 := by
  obtain ⟨xs, n, _, hx, hl, hlen, hf⟩ := DataW.trod_array Try.underlying42 h
  rw [cellsOfFour] at hl
  match cs, hl with
  | [v0, v1, v2, v3], _ =>
    match xs, hlen with
    | [y0, y1, y2, y3], _ =>
      have h0 := hf 0 (by omega)
      have h1 := hf 1 (by omega)
      have h2 := hf 2 (by omega)
      have h3 := hf 3 (by omega)
      simp only [cellsOfInt, Nat.mul_one, List.drop_zero, List.drop_succ_cons, List.take_succ_cons, List.take_zero] at h0 h1 h2 h3
      obtain ⟨a, e0, _, w0⟩ := DataW.trod_int Try.underlying3 h0
      obtain ⟨b, e1, _, w1⟩ := DataW.trod_int Try.underlying3 h1
      obtain ⟨c, e2, _, w2⟩ := DataW.trod_int Try.underlying3 h2
      obtain ⟨d, e3, _, w3⟩ := DataW.trod_int Try.underlying3 h3
      simp only [List.cons.injEq, and_true] at e0 e1 e2 e3
      subst e0; subst e1; subst e2; subst e3
      refine ⟨fun i => if i = 0 then a else if i = 1 then b else if i = 2 then c else d, rfl, fun i => ?_⟩
      have := (bounds_i64 w0).2; have := (bounds_i64 w1).2; have := (bounds_i64 w2).2; have := (bounds_i64 w3).2
      show (if i = 0 then a else if i = 1 then b else if i = 2 then c else d) ≤ _
      split
      · assumption
      split
      · assumption
      split <;> assumption

set_option maxRecDepth 100000 in
/-- one operation, read -/
theorem jop_open {fuel : Nat} {cs : List Value} {x : DataW H × List MemPlace} (h : DataW.trod enc Try.prog w 0 (fun _ => true) true fuel 44 cs = some x) :
    ∃ c : JOp, cs = c.arr.toList ∧ c.Ok ∧ c.Bs.size ∈ x.1.weights Try.prog 44 := by
  obtain ⟨xs, n, _, hx, hl, hlen, hf⟩ := DataW.trod_struct und44 h
  rw [cellsOfOp] at hl
  match cs, hl with
  | [v0, v1, v2, v3, v4, v5, v6], _ =>
    match xs, hlen with
    | [y0, y1, y2, y3], _ =>
      have h0 := hf 0 ⟨"Do", 3, 0, false, "", "", 0⟩ rfl
      have h1 := hf 1 ⟨"N", 3, 1, false, "", "", 8⟩ rfl
      have h2 := hf 2 ⟨"B", 9, 2, false, "", "", 16⟩ rfl
      have h3 := hf 3 ⟨"Kept", 42, 3, false, "", "", 32⟩ rfl
      simp only [cellsOfText, cellsOfInt, cellsOfFour, List.drop_zero, List.drop_succ_cons, List.take_succ_cons, List.take_zero] at h0 h1 h2 h3
      obtain ⟨a, e0, _, w0⟩ := DataW.trod_int Try.underlying3 h0
      obtain ⟨b, e1, _, w1⟩ := DataW.trod_int Try.underlying3 h1
      obtain ⟨s, e2, x2, _⟩ := DataW.trod_string Try.underlying9 h2
      obtain ⟨K, e3, hK⟩ := four_openJ h3
      simp only [List.cons.injEq, and_true] at e0 e1 e2 e3
      obtain ⟨e3, e4, e5, e6⟩ := e3
      subst e0; subst e1; subst e2; subst e3; subst e4; subst e5; subst e6
      refine ⟨⟨a, b, s, K⟩, rfl, ⟨(bounds_i64 w1).2, hK⟩, ?_⟩
      subst hx
      rw [x2]
      simp only [List.map_cons, List.map_nil, DataW.weights, und44, jopFields, DataW.weightsEach, List.mem_append]
      refine .inr (.inr (.inl ?_))
      simp only [List.mem_singleton]
      exact (Array.length_toList).symm

/-- operations that came in -/
theorem jops_open {fuel : Nat} {a : Option Addr} {len cap : Nat} {x : DataW H × List MemPlace} (h : DataW.trod enc Try.prog w 0 (fun _ => true) true fuel 23 (Value.cells (.slice a len cap)).toList = some x)
    (hw : ∀ n ∈ x.1.weights Try.prog 23, n ≤ 140737488351232) : ∃ ops, JopRow w a len ops := by
  let z : JOp := ⟨0, 0, ⟨#[]⟩, fun _ => 0⟩
  have hz0 : z.Ok ∧ z.Bs.size ≤ 140737488351232 := ⟨⟨by show (0 : Int) ≤ _; omega, fun _ => by show (0 : Int) ≤ _; omega⟩, by show 0 ≤ _; omega⟩
  rcases Go.Deep.open_slice Try.underlying23 h with ⟨hcs, _⟩ | ⟨ad, l, c, m, n, D, Pl, hcs, _, hl, hm, hmm, hx, hi⟩
  · simp [Value.cells] at hcs
    obtain ⟨rfl, rfl, rfl⟩ := hcs
    exact ⟨fun _ => z, fun _ => hz0, by decide, .inl rfl⟩
  · simp [Value.cells] at hcs
    obtain ⟨rfl, rfl, rfl⟩ := hcs
    have hml : len ≤ m := by rw [hmm]; simpa using hl
    subst hx
    have hone : ∀ i, i < len → ∃ c : JOp, (c.Ok ∧ c.Bs.size ≤ 140737488351232) ∧ ∀ j, j < 7 → w.cell? (ad.add (i * 7 + j)) = c.arr[j]? := by
      intro i hil
      obtain ⟨cs', hc, ht⟩ := hi i (by omega)
      rw [cellsOfOp] at hc
      obtain ⟨c, rfl, h1, h2⟩ := jop_open ht
      obtain ⟨_, _, hat⟩ := World.cells?_some hc
      refine ⟨c, ⟨h1, hw _ ?_⟩, fun j hj => ?_⟩
      · simp only [DataW.weights, Try.underlying23, List.mem_cons, List.mem_append]
        refine .inr (.inl (mem_weightsAllJ h2 ?_))
        simp only [List.mem_map, List.mem_range]
        exact ⟨i, hil, rfl⟩
      · have g := hat j hj
        rw [Go.Deep.add_add] at g
        rw [g]
        simp
    have hlen : len ≤ 140737488351232 := by
      have h1 : ∀ n ∈ (DataW.slice ((List.range len).map D) ((List.range (m - len)).map fun j => D (len + j))).weights Try.prog 23, n ≤ 140737488351232 := hw
      simp only [DataW.weights, Try.underlying23, List.mem_cons] at h1
      have h2 := h1 _ (.inl rfl)
      rw [bytesOfOp] at h2
      simp only [List.length_map, List.length_range] at h2
      omega
    let f : Nat → JOp := fun i => if h : i < len then Classical.choose (hone i h) else z
    have hf : ∀ i, i < len → ((f i).Ok ∧ (f i).Bs.size ≤ 140737488351232) ∧ ∀ j, j < 7 → w.cell? (ad.add (i * 7 + j)) = (f i).arr[j]? := by
      intro i h
      have e : f i = Classical.choose (hone i h) := dif_pos h
      rw [e]
      exact Classical.choose_spec (hone i h)
    refine ⟨f, fun i => ?_, hlen, ?_⟩
    · by_cases h : i < len
      · exact (hf i h).1
      · have e : f i = z := dif_neg h
        rw [e]; exact hz0
    · by_cases h0 : len = 0
      · exact .inl h0
      · obtain ⟨b, off, spot⟩ := ad
        have c0 : w.cell? _ = some (.int .i64 (f 0).Do) := (hf 0 (by omega)).2 0 (by omega)
        have hspot : spot = none := by simpa [Addr.add] using World.cell?_spot c0
        subst hspot
        refine .inr ⟨b, off, rfl, ?_, fun i h j hj => ?_⟩
        · have := World.block_lt_of_cell? w _ c0
          rwa [Go.WideShapes.add_plain] at this
        · have g := (hf i h).2 j hj
          rw [Go.WideShapes.add_plain] at g
          rw [← g]
          congr 2
          omega
end

/-- what size tells of the first operations -/
def jsz (ops : Nat → JOp) : Nat → Nat
  | 0 => 0
  | k + 1 => jsz ops k + (ops k).Bs.size + 1
theorem jsz_mono (ops : Nat → JOp) (k : Nat) : ∀ n, jsz ops k ≤ jsz ops (k + n)
  | 0 => Nat.le_refl _
  | n + 1 => by have := jsz_mono ops k n; rw [← Nat.add_assoc, jsz]; omega
theorem jsz_len (ops : Nat → JOp) : ∀ n, n ≤ jsz ops n
  | 0 => Nat.le_refl _
  | n + 1 => by have := jsz_len ops n; rw [jsz]; omega

set_option maxHeartbeats 2000000 in
set_option maxRecDepth 100000 in
theorem jsize_any (p : Option Addr) (len cap : Nat) (ops : Nat → JOp) (w : World) (h : JopRow w p len ops) :
    Calls Try.prog 8 #[.slice p len cap] w fun e w' => (∃ n : Nat, e = .returned (.int .i64 n) ∧ n ≤ 140737488500000 ∧ (n ≤ 4000 → n = jsz ops len)) ∧ w = w' := by
  obtain ⟨h1, h2, h3⟩ := h
  have h1' := Lib.hid h1
  clear h1
  go_enter Try.func8, Try.ntmps8
  go_wp2_with fail
  go_loop [3, 4] (fun n i => ∃ k : Nat, k ≤ len ∧ i = .int .i64 k ∧ n = .int .i64 (jsz ops k : Nat) ∧ jsz ops k ≤ 140737488500000) (fun _ i => len - (intOf i).toNat)
  case atStart => exact ⟨0, by omega, rfl, rfl, Nat.zero_le _⟩
  case round =>
    obtain ⟨k, hk, rfl, rfl, hv⟩ := hrel
    have hs : jsz ops (k + 1) = jsz ops k + (ops k).Bs.size + 1 := rfl
    have hb := (h1'.out k).2
    by_cases hkl : k < len
    · have hkz : (k : Int) < (len : Int) := by omega
      obtain ⟨b, off, rfl, hlt, hc⟩ := h3.resolve_left (by omega)
      have c2 : w.cell? ⟨b, off + k * 7 + 2, none⟩ = some (.string (ops k).Bs) := hc k hkl 2 (by omega)
      have hmono := jsz_mono ops (k + 1) (len - (k + 1))
      rw [show k + 1 + (len - (k + 1)) = len by omega] at hmono
      generalize hS : (ops k).Bs = S at *
      generalize hJ : jsz ops k = J at *
      generalize hJ1 : jsz ops (k + 1) = J1 at *
      generalize hJl : jsz ops len = Jl at *
      replace hS := Lib.hid hS
      replace hJ := Lib.hid hJ
      replace hJ1 := Lib.hid hJ1
      replace hJl := Lib.hid hJl
      replace hs := Lib.hid hs
      replace hmono := Lib.hid hmono
      clear hc
      by_cases hbig : J < 100000
      · have hbz : (J : Int) < 100000 := by omega
        go_wp2_with fail
        go_round
        case rel => exact ⟨k + 1, by omega, by go_num, by rw [hJ1.out, hs.out]; go_num, by rw [hJ1.out, hs.out]; omega⟩
        case measure => simp [intOf]; omega
      · have hbz : ¬ (J : Int) < 100000 := by omega
        go_wp2_with fail
        go_ret
        exact ⟨⟨J, rfl, hv, fun h => absurd h (by omega)⟩, rfl⟩
    · obtain rfl : k = len := by omega
      have hkz : ¬ (k : Int) < (k : Int) := by omega
      obtain ⟨J, hJ⟩ : ∃ J, jsz ops k = J := ⟨_, rfl⟩
      rw [hJ] at hv ⊢
      replace hJ := Lib.hid hJ
      go_wp2_with fail
      go_ret
      exact ⟨⟨J, rfl, hv, fun _ => hJ.out.symm⟩, rfl⟩
end Go.Proofs.Ytidofjjghbhaaaa
