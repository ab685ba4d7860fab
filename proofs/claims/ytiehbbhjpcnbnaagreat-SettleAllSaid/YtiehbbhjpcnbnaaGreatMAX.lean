/- The contract of the law's awake.
  A table that came in: what its reading tells of it. -/
import Derived.Test.YtiehbbhjpcnbnaaGreatMAT
import Derived.Test.YtiehbbhjpcnbnaaGreatMAH
import Derived.Test.YtiehbbhjpcnbnaaGreatMAB
import Derived.SizedLaws
import Derived.Deep.Slices
import Derived.Deep.Fields
import Derived.ChangeSame
import Derived.OpenShut
namespace Go.Proofs.YtiehbbhjpcnbnaaGreat
open Go.RowKit
set_option linter.unusedVariables false

def gCs : List Cur := [eur, ⟨usd.code, 12500, 0⟩]
def gCs2 : List Cur := [eur, ⟨usd.code, 12600, 0⟩]
def gLs (a b : Nat) : List LV := [⟨some ⟨a, 0, none⟩, 2, 2, [0, 100], 50⟩, ⟨some ⟨b, 0, none⟩, 2, 2, [0, 0], 0⟩]
def gG0 : GM := newGM (LM.new 2 2) gCs (gLs 0 0)
def gG1 : GM := (gG0.inn 0 0 100).2
def gG2 : GM := (gG1.inn 1 1 100).2
def gG3 : GM := (gG2.book [⟨0, 1, -40⟩, ⟨1, 1, 40⟩]).2
def gG4 : GM := (⟨gG3.l, gCs2, gG3.L, gG3.fl⟩ : GM).judge
def gG5 : GM := (gG4.out 1 1 10).2
theorem gLs_eq (a b : Nat) : newGM (LM.new 2 2) gCs (gLs a b) = gG0 := by
  have e : LimM (gLs a b) = LimM (gLs 0 0) := by
    funext m
    match m with
    | 0 => rfl
    | 1 => rfl
    | m + 2 => rfl
  unfold gG0 newGM
  rw [e]
theorem g_in0 : (gG0.inn 0 0 100).1 = 0 := by decide +kernel
theorem g_in1 : (gG1.inn 1 1 100).1 = 0 := by decide +kernel
theorem g_fail : gG2.fails 0 [⟨0, 0, -90⟩, ⟨0, 1, -60⟩] = 5 := by decide +kernel
theorem g_bk1 : (gG2.book [⟨0, 1, -40⟩, ⟨1, 1, 40⟩]).1 = 0 := by decide +kernel
theorem g_bk2 : gG3.book [⟨0, 1, -1⟩, ⟨1, 1, 1⟩] = (10, gG3) := by
  unfold GM.book
  rw [if_pos (by decide +kernel), if_neg (by decide +kernel)]
theorem inn_cs (g : GM) (m c a : Int) : (g.inn m c a).2.cs = g.cs := by unfold GM.inn; split; rfl; split; rfl; split <;> rfl
theorem book_cs (g : GM) (ps : List Pst) : (g.book ps).2.cs = g.cs := by unfold GM.book; split <;> rfl
theorem gG3_cs : gG3.cs = gCs := by unfold gG3 gG2 gG1; rw [book_cs, inn_cs, inn_cs]; rfl
theorem chk_gCs : chkT gCs = 0 := chk_two eur ⟨usd.code, 12500, 0⟩ cap_eur cap_usd eur_usd (by decide) (by decide) (by decide)
theorem chk_gCs2 : chkT gCs2 = 0 := chk_two eur ⟨usd.code, 12600, 0⟩ cap_eur cap_usd eur_usd (by decide) (by decide) (by decide)
theorem g_rate : gG3.rate 1 12600 = (0, gG4) := by
  have e : (gG3.x.rate 1 12600).1 = 0 ∧ (gG3.x.rate 1 12600).2.cs = gCs2 := by
    unfold WM.rate GM.x WM.new
    dsimp only
    rw [gG3_cs, if_pos (by decide)]
    have h : (WM.by ⟨gCs, gG3.l.nm, fun m => gG3.l.row m⟩ (gCs.set (1 : Int).toNat { cAt gCs (1 : Int).toNat with rate := 12600 })) = (0, ⟨gCs2, gG3.l.nm, fun m => gG3.l.row m⟩) := by
      unfold WM.by
      exact if_pos chk_gCs2
    rw [h]
    exact ⟨rfl, rfl⟩
  unfold GM.rate
  rw [e.1, if_pos rfl, e.2]
  rfl
theorem g_fl0 : gG4.flagged 0 = true := by decide +kernel
theorem g_fl1 : gG4.flagged 1 = false := by decide +kernel
theorem g_fl2 : gG4.flagged 2 = false := by decide +kernel
theorem g_out1 : gG4.out 0 0 1 = (10, gG4) := by
  unfold GM.out
  rw [if_neg (by decide +kernel), if_pos (by decide +kernel)]
theorem g_out2 : (gG4.out 1 1 10).1 = 0 := by decide +kernel
theorem g_fl50 : gG5.flagged 0 = true := by decide +kernel
theorem g_fl51 : gG5.flagged 1 = false := by decide +kernel
theorem g_fl52 : gG5.flagged 2 = false := by decide +kernel
theorem g_get : gG5.l.get 1 1 = 130 := by decide +kernel
theorem g_lims (a b : Nat) : limsOk (gLs a b) 2 2 = true := rfl
theorem g_lim1 (a b : Nat) : limsOk [⟨some ⟨a, 0, none⟩, 2, 2, [0, 100], 50⟩] 2 2 = false := rfl

theorem tabG (w : World) : Tab (w.alloc (.cells #[.string ⟨#[69, 85, 82]⟩, .int .i64 10000, .int .i64 0, .string ⟨#[85, 83, 68]⟩, .int .i64 12500, .int .i64 0] 55)) (some ⟨w.heap.size, 0, none⟩) 2 gCs := by
  refine ⟨rfl, fun i => ?_, by decide, .inr ⟨w.heap.size, 0, rfl, by simp, fun i hi => ?_⟩⟩
  · rcases (by omega : i = 0 ∨ i = 1 ∨ 2 ≤ i) with rfl | rfl | h
    · exact ⟨by decide, ⟨by decide, by decide⟩, ⟨by decide, by decide⟩⟩
    · exact ⟨by decide, ⟨by decide, by decide⟩, ⟨by decide, by decide⟩⟩
    · unfold cAt
      rw [List.getD_eq_getElem?_getD, List.getElem?_eq_none (by simpa [gCs] using h)]
      exact ⟨by decide, ⟨by decide, by decide⟩, ⟨by decide, by decide⟩⟩
  · rcases (by omega : i = 0 ∨ i = 1) with rfl | rfl
    · refine ⟨?_, ?_, ?_⟩ <;> go_simp <;> rfl
    · refine ⟨?_, ?_, ?_⟩ <;> go_simp <;> rfl
theorem seq_two {W : World} {A : Nat} {x y : Int} (h : W.heap[A]? = some (.cells #[.int .i64 x, .int .i64 y] 2 (0, 0))) (hx : In64 x) (hy : In64 y) : Seq64 W (some ⟨A, 0, none⟩) 2 [x, y] := by
  refine ⟨rfl, fun i => ?_, by decide, .inr ⟨A, 0, rfl, obj_lt h, fun i hi => ?_⟩⟩
  · match i with
    | 0 => exact hx
    | 1 => exact hy
    | i + 2 => exact (by decide : In64 0)
  · match i, hi with
    | 0, _ => exact obj_cell h rfl
    | 1, _ => exact obj_cell h rfl
def limC (A B : Nat) : Array Value := #[.slice (some ⟨A, 0, none⟩) 2 2, .int .i64 50, .slice (some ⟨B, 0, none⟩) 2 2, .int .i64 0]
theorem lrow_lit {W : World} {A B C : Nat} (hA : W.heap[A]? = some (.cells #[.int .i64 0, .int .i64 100] 2 (0, 0))) (hB : W.heap[B]? = some (.cells #[.int .i64 0, .int .i64 0] 2 (0, 0))) (hC : W.heap[C]? = some (.cells (limC A B) 58 (0, 0))) : LRow W (some ⟨C, 0, none⟩) 2 (gLs A B) := by
  refine ⟨rfl, by decide, fun v hv => ?_, .inr ⟨C, 0, rfl, obj_lt hC, fun i v hv => ?_⟩⟩
  · simp [gLs] at hv
    rcases hv with rfl | rfl
    · exact ⟨seq_two hA (by decide) (by decide), (by decide : In64 50)⟩
    · exact ⟨seq_two hB (by decide) (by decide), (by decide : In64 0)⟩
  · match i with
    | 0 => injection hv with hv; rw [← hv]; exact ⟨obj_cell hC rfl, obj_cell hC rfl⟩
    | 1 => injection hv with hv; rw [← hv]; exact ⟨obj_cell hC rfl, obj_cell hC rfl⟩
    | i + 2 => simp [gLs] at hv
theorem lrow_one {W : World} {A B C : Nat} (hA : W.heap[A]? = some (.cells #[.int .i64 0, .int .i64 100] 2 (0, 0))) (hC : W.heap[C]? = some (.cells (limC A B) 58 (0, 0))) : LRow W (some ⟨C, 0, none⟩) 1 [⟨some ⟨A, 0, none⟩, 2, 2, [0, 100], 50⟩] := by
  refine ⟨rfl, by decide, fun v hv => ?_, .inr ⟨C, 0, rfl, obj_lt hC, fun i v hv => ?_⟩⟩
  · simp at hv
    subst hv
    exact ⟨seq_two hA (by decide) (by decide), (by decide : In64 50)⟩
  · match i with
    | 0 => injection hv with hv; rw [← hv]; exact ⟨obj_cell hC rfl, obj_cell hC rfl⟩
    | i + 1 => simp at hv
theorem prow_two (w : World) (a b c d e f : Int) (h : In64 a ∧ In64 b ∧ In64 c ∧ In64 d ∧ In64 e ∧ In64 f) : PRow (w.alloc (.cells #[.int .i64 a, .int .i64 b, .int .i64 c, .int .i64 d, .int .i64 e, .int .i64 f] 60)) (some ⟨w.heap.size, 0, none⟩) 2 [⟨a, b, c⟩, ⟨d, e, f⟩] := by
  have hb := heap_alloc_new w (.cells #[.int .i64 a, .int .i64 b, .int .i64 c, .int .i64 d, .int .i64 e, .int .i64 f] 60)
  refine ⟨rfl, fun q hq => ?_, .inr ⟨_, 0, rfl, obj_lt hb, fun i q hq => ?_⟩⟩
  · simp at hq
    rcases hq with rfl | rfl
    · exact ⟨h.1, h.2.1, h.2.2.1⟩
    · exact ⟨h.2.2.2.1, h.2.2.2.2.1, h.2.2.2.2.2⟩
  · match i with
    | 0 => injection hq with hq; rw [← hq]; exact ⟨obj_cell hb rfl, obj_cell hb rfl, obj_cell hb rfl⟩
    | 1 => injection hq with hq; rw [← hq]; exact ⟨obj_cell hb rfl, obj_cell hb rfl, obj_cell hb rfl⟩
    | i + 2 => simp at hq
/-- behind the first New: a guard, its table, its limits as they came -/
structure AG (w : World) (A : Nat) (S : Nat → Prop) (gb lb b gL cL gF cF : Nat) (g : GM) (wr : World) : Prop where
  hw : HW w S gb lb b gL cL gF cF g wr
  tab : Tab wr (some ⟨w.heap.size, 0, none⟩) 2 gCs
  row : LRow wr (some ⟨A + 2, 0, none⟩) 1 [⟨some ⟨A, 0, none⟩, 2, 2, [0, 100], 50⟩]
end Go.Proofs.YtiehbbhjpcnbnaaGreat
namespace Go.Proofs.YtiehbbhjpcnbnaaGreat
open Go.RowKit Go.ChangeShapes Go.WideShapes
set_option linter.unusedVariables false

/-- the fields of a currency -/
def curFields : Array Field := #[⟨"Code", 9, 0, false, "", "", 0⟩, ⟨"Rate", 2, 1, false, "", "", 16⟩, ⟨"Haircut", 2, 2, false, "", "", 24⟩]
theorem und30 : Tryz.prog.underlying 55 = some (.struct curFields) := by kernel_rfl
theorem cellsOf30 : Tryz.prog.cellsOf 55 = 3 := by kernel_rfl
theorem cellsOf9 : Tryz.prog.cellsOf 9 = 1 := by kernel_rfl
theorem cellsOf2 : Tryz.prog.cellsOf 2 = 1 := by kernel_rfl
theorem bytesOf30 : Tryz.prog.bytesOf 55 = 32 := by kernel_rfl

theorem mem_weightsAll {H : Type} {P : Program} {e : TypeId} {d : DataW H} {n : Nat} (hn : n ∈ d.weights P e) : ∀ {l : List (DataW H)}, d ∈ l → n ∈ DataW.weightsAll P e l
  | x :: r, h => by
    simp only [DataW.weightsAll, List.mem_append]
    rcases List.mem_cons.1 h with rfl | h
    · exact .inl hn
    · exact .inr (mem_weightsAll hn h)

section
variable {H : Type} {enc : TypeId × Value → H} {w : World}

set_option maxRecDepth 100000 in
/-- one currency, read -/
theorem cur_open {fuel : Nat} {cs : List Value} {x : DataW H × List MemPlace} (h : DataW.trod enc Tryz.prog w 0 (fun _ => true) true fuel 55 cs = some x) :
    ∃ c : Cur, cs = [.string c.code, .int .i64 c.rate, .int .i64 c.cut] ∧ Amt c.rate ∧ Amt c.cut ∧ c.code.size ∈ x.1.weights Tryz.prog 55 := by
  obtain ⟨xs, n, _, hx, hl, hlen, hf⟩ := DataW.trod_struct und30 h
  rw [cellsOf30] at hl
  match cs, hl with
  | [v0, v1, v2], _ =>
    match xs, hlen with
    | [y0, y1, y2], _ =>
      have h0 := hf 0 ⟨"Code", 9, 0, false, "", "", 0⟩ rfl
      have h1 := hf 1 ⟨"Rate", 2, 1, false, "", "", 16⟩ rfl
      have h2 := hf 2 ⟨"Haircut", 2, 2, false, "", "", 24⟩ rfl
      simp only [cellsOf9, cellsOf2, List.drop_zero, List.drop_succ_cons, List.take_succ_cons, List.take_zero] at h0 h1 h2
      obtain ⟨s, e0, x0, _⟩ := DataW.trod_string Tryz.underlying9 h0
      obtain ⟨r, e1, x1, w1⟩ := DataW.trod_int Tryz.underlying2 h1
      obtain ⟨u, e2, x2, w2⟩ := DataW.trod_int Tryz.underlying2 h2
      simp only [List.cons.injEq, and_true] at e0 e1 e2
      subst e0; subst e1; subst e2
      refine ⟨⟨s, r, u⟩, rfl, bounds_i64 w1, bounds_i64 w2, ?_⟩
      subst hx
      rw [x0]
      simp only [List.map_cons, List.map_nil, DataW.weights, und30, curFields, DataW.weightsEach, List.mem_append]
      refine .inl ?_
      simp only [List.mem_singleton]
      exact (Array.length_toList).symm

set_option maxRecDepth 100000 in
/-- a table that came in -/
theorem tab_open {fuel : Nat} {a : Option Addr} {len cap : Nat} {x : DataW H × List MemPlace} (h : DataW.trod enc Tryz.prog w 0 (fun _ => true) true fuel 22 (Value.cells (.slice a len cap)).toList = some x)
    (hw : ∀ n ∈ x.1.weights Tryz.prog 22, n ≤ 140737488351232) : ∃ cs, Tab w a len cs := by
  have hz0 : CurOk Cur.zero := ⟨by decide, ⟨by decide, by decide⟩, ⟨by decide, by decide⟩⟩
  rcases Go.Deep.open_slice Tryz.underlying22 h with ⟨hcs, _⟩ | ⟨ad, l, c, m, n, D, Pl, hcs, _, hl, hm, hmm, hx, hi⟩
  · simp [Value.cells] at hcs
    obtain ⟨rfl, rfl, rfl⟩ := hcs
    exact ⟨[], rfl, fun i => by rw [show cAt [] i = Cur.zero by simp [cAt]]; exact hz0, by decide, .inl rfl⟩
  · simp [Value.cells] at hcs
    obtain ⟨rfl, rfl, rfl⟩ := hcs
    have hml : len ≤ m := by rw [hmm]; simpa using hl
    subst hx
    have hone : ∀ i, i < len → ∃ c : Cur, CurOk c ∧ w.cell? (ad.add (i * 3)) = some (.string c.code) ∧ w.cell? (ad.add (i * 3 + 1)) = some (.int .i64 c.rate) ∧ w.cell? (ad.add (i * 3 + 2)) = some (.int .i64 c.cut) := by
      intro i hil
      obtain ⟨cs', hc, ht⟩ := hi i (by omega)
      rw [cellsOf30] at hc
      obtain ⟨c, rfl, h1, h2, h3⟩ := cur_open ht
      obtain ⟨_, _, hat⟩ := World.cells?_some hc
      have g0 := hat 0 (by omega)
      have g1 := hat 1 (by omega)
      have g2 := hat 2 (by omega)
      rw [Go.Deep.add_add] at g0 g1 g2
      refine ⟨c, ⟨hw _ ?_, h1, h2⟩, g0, g1, g2⟩
      simp only [DataW.weights, Tryz.underlying22, List.mem_cons, List.mem_append]
      refine .inr (.inl (mem_weightsAll h3 ?_))
      simp only [List.mem_map, List.mem_range]
      exact ⟨i, hil, rfl⟩
    have hlen : len ≤ 140737488351232 := by
      have h1 : ∀ n ∈ (DataW.slice ((List.range len).map D) ((List.range (m - len)).map fun j => D (len + j))).weights Tryz.prog 22, n ≤ 140737488351232 := hw
      simp only [DataW.weights, Tryz.underlying22, List.mem_cons] at h1
      have h2 := h1 _ (.inl rfl)
      rw [bytesOf30] at h2
      simp only [List.length_map, List.length_range] at h2
      omega
    let f : Nat → Cur := fun i => if h : i < len then Classical.choose (hone i h) else Cur.zero
    have hf : ∀ i, i < len → CurOk (f i) ∧ w.cell? (ad.add (i * 3)) = some (.string (f i).code) ∧ w.cell? (ad.add (i * 3 + 1)) = some (.int .i64 (f i).rate) ∧ w.cell? (ad.add (i * 3 + 2)) = some (.int .i64 (f i).cut) := by
      intro i h
      have e : f i = Classical.choose (hone i h) := dif_pos h
      rw [e]
      exact Classical.choose_spec (hone i h)
    have hat : ∀ i, i < len → cAt ((List.range len).map f) i = f i := by
      intro i h
      unfold cAt
      rw [List.getD_eq_getElem?_getD, List.getElem?_map, List.getElem?_range h]
      rfl
    refine ⟨(List.range len).map f, by simp, fun i => ?_, hlen, ?_⟩
    · by_cases h : i < len
      · rw [hat i h]; exact (hf i h).1
      · unfold cAt
        rw [List.getD_eq_getElem?_getD, List.getElem?_eq_none (by simp; omega)]
        exact hz0
    · by_cases h0 : len = 0
      · exact .inl h0
      · obtain ⟨b, off, spot⟩ := ad
        have c0 := (hf 0 (by omega)).2.1
        have hspot : spot = none := by simpa [Addr.add] using World.cell?_spot c0
        subst hspot
        refine .inr ⟨b, off, rfl, ?_, fun i h => ?_⟩
        · have := World.block_lt_of_cell? w _ c0
          rwa [Go.WideShapes.add_plain] at this
        · rw [hat i h]
          obtain ⟨_, g0, g1, g2⟩ := hf i h
          rw [Go.WideShapes.add_plain] at g0 g1 g2
          exact ⟨g0, g1, g2⟩
end
end Go.Proofs.YtiehbbhjpcnbnaaGreat
