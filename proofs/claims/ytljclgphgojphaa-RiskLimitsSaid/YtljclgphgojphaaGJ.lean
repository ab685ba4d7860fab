/- The contract of the law's awake. -/
import Derived.Test.YtljclgphgojphaaGI
import Derived.Test.YtljclgphgojphaaP7
namespace Go.Proofs.Ytljclgphgojphaa
open Go.RowKit
set_option linter.unusedVariables false

def gCs : List Cur := [eur, ⟨usd.code, 12500, 0⟩]
def gCs2 : List Cur := [eur, ⟨usd.code, 12600, 0⟩]
def gLs (a b : Nat) : List LV := [⟨some ⟨a, 0, none⟩, 2, 2, [0, 100], 50⟩, ⟨some ⟨b, 0, none⟩, 2, 2, [0, 0], 0⟩]
def gG0 : GM := newGM (LM.new 2 2) gCs (gLs 0 0)
def gG1 : GM := (gG0.inn 0 0 100).2
def gG2 : GM := (gG1.inn 1 1 100).2
def gG3 : GM := (gG2.book [⟨0, 1, -40⟩, ⟨1, 1, 40⟩]).2
def gG4 : GM := (⟨gG3.l, gCs2, gG3.L, gG3.fl⟩ : GM).judge
def gG5 : GM := (gG4.out 1 1 10).2
theorem gLs_eq (a b : Nat) : newGM (LM.new 2 2) gCs (gLs a b) = gG0 := by
  have e : LimM (gLs a b) = LimM (gLs 0 0) := by
    funext m
    match m with
    | 0 => rfl
    | 1 => rfl
    | m + 2 => rfl
  unfold gG0 newGM
  rw [e]
theorem g_in0 : (gG0.inn 0 0 100).1 = 0 := by decide +kernel
theorem g_in1 : (gG1.inn 1 1 100).1 = 0 := by decide +kernel
theorem g_fail : gG2.fails 0 [⟨0, 0, -90⟩, ⟨0, 1, -60⟩] = 5 := by decide +kernel
theorem g_bk1 : (gG2.book [⟨0, 1, -40⟩, ⟨1, 1, 40⟩]).1 = 0 := by decide +kernel
theorem g_bk2 : gG3.book [⟨0, 1, -1⟩, ⟨1, 1, 1⟩] = (10, gG3) := by
  unfold GM.book
  rw [if_pos (by decide +kernel), if_neg (by decide +kernel)]
theorem inn_cs (g : GM) (m c a : Int) : (g.inn m c a).2.cs = g.cs := by unfold GM.inn; split; rfl; split; rfl; split <;> rfl
theorem book_cs (g : GM) (ps : List Pst) : (g.book ps).2.cs = g.cs := by unfold GM.book; split <;> rfl
theorem gG3_cs : gG3.cs = gCs := by unfold gG3 gG2 gG1; rw [book_cs, inn_cs, inn_cs]; rfl
theorem chk_gCs : chkT gCs = 0 := chk_two eur ⟨usd.code, 12500, 0⟩ cap_eur cap_usd eur_usd (by decide) (by decide) (by decide)
theorem chk_gCs2 : chkT gCs2 = 0 := chk_two eur ⟨usd.code, 12600, 0⟩ cap_eur cap_usd eur_usd (by decide) (by decide) (by decide)
theorem g_rate : gG3.rate 1 12600 = (0, gG4) := by
  have e : (gG3.x.rate 1 12600).1 = 0 ∧ (gG3.x.rate 1 12600).2.cs = gCs2 := by
    unfold WM.rate GM.x WM.new
    dsimp only
    rw [gG3_cs, if_pos (by decide)]
    have h : (WM.by ⟨gCs, gG3.l.nm, fun m => gG3.l.row m⟩ (gCs.set (1 : Int).toNat { cAt gCs (1 : Int).toNat with rate := 12600 })) = (0, ⟨gCs2, gG3.l.nm, fun m => gG3.l.row m⟩) := by
      unfold WM.by
      exact if_pos chk_gCs2
    rw [h]
    exact ⟨rfl, rfl⟩
  unfold GM.rate
  rw [e.1, if_pos rfl, e.2]
  rfl
theorem g_fl0 : gG4.flagged 0 = true := by decide +kernel
theorem g_fl1 : gG4.flagged 1 = false := by decide +kernel
theorem g_fl2 : gG4.flagged 2 = false := by decide +kernel
theorem g_out1 : gG4.out 0 0 1 = (10, gG4) := by
  unfold GM.out
  rw [if_neg (by decide +kernel), if_pos (by decide +kernel)]
theorem g_out2 : (gG4.out 1 1 10).1 = 0 := by decide +kernel
theorem g_fl50 : gG5.flagged 0 = true := by decide +kernel
theorem g_fl51 : gG5.flagged 1 = false := by decide +kernel
theorem g_fl52 : gG5.flagged 2 = false := by decide +kernel
theorem g_get : gG5.l.get 1 1 = 130 := by decide +kernel
theorem g_lims (a b : Nat) : limsOk (gLs a b) 2 2 = true := rfl
theorem g_lim1 (a b : Nat) : limsOk [⟨some ⟨a, 0, none⟩, 2, 2, [0, 100], 50⟩] 2 2 = false := rfl

theorem tabG (w : World) : Tab (w.alloc (.cells #[.string ⟨#[69, 85, 82]⟩, .int .i64 10000, .int .i64 0, .string ⟨#[85, 83, 68]⟩, .int .i64 12500, .int .i64 0] 42)) (some ⟨w.heap.size, 0, none⟩) 2 gCs := by
  refine ⟨rfl, fun i => ?_, by decide, .inr ⟨w.heap.size, 0, rfl, by simp, fun i hi => ?_⟩⟩
  · rcases (by omega : i = 0 ∨ i = 1 ∨ 2 ≤ i) with rfl | rfl | h
    · exact ⟨by decide, ⟨by decide, by decide⟩, ⟨by decide, by decide⟩⟩
    · exact ⟨by decide, ⟨by decide, by decide⟩, ⟨by decide, by decide⟩⟩
    · unfold cAt
      rw [List.getD_eq_getElem?_getD, List.getElem?_eq_none (by simpa [gCs] using h)]
      exact ⟨by decide, ⟨by decide, by decide⟩, ⟨by decide, by decide⟩⟩
  · rcases (by omega : i = 0 ∨ i = 1) with rfl | rfl
    · refine ⟨?_, ?_, ?_⟩ <;> go_simp <;> rfl
    · refine ⟨?_, ?_, ?_⟩ <;> go_simp <;> rfl
theorem seq_two {W : World} {A : Nat} {x y : Int} (h : W.heap[A]? = some (.cells #[.int .i64 x, .int .i64 y] 2 (0, 0))) (hx : In64 x) (hy : In64 y) : Seq64 W (some ⟨A, 0, none⟩) 2 [x, y] := by
  refine ⟨rfl, fun i => ?_, by decide, .inr ⟨A, 0, rfl, obj_lt h, fun i hi => ?_⟩⟩
  · match i with
    | 0 => exact hx
    | 1 => exact hy
    | i + 2 => exact (by decide : In64 0)
  · match i, hi with
    | 0, _ => exact obj_cell h rfl
    | 1, _ => exact obj_cell h rfl
def limC (A B : Nat) : Array Value := #[.slice (some ⟨A, 0, none⟩) 2 2, .int .i64 50, .slice (some ⟨B, 0, none⟩) 2 2, .int .i64 0]
theorem lrow_lit {W : World} {A B C : Nat} (hA : W.heap[A]? = some (.cells #[.int .i64 0, .int .i64 100] 2 (0, 0))) (hB : W.heap[B]? = some (.cells #[.int .i64 0, .int .i64 0] 2 (0, 0))) (hC : W.heap[C]? = some (.cells (limC A B) 29 (0, 0))) : LRow W (some ⟨C, 0, none⟩) 2 (gLs A B) := by
  refine ⟨rfl, by decide, fun v hv => ?_, .inr ⟨C, 0, rfl, obj_lt hC, fun i v hv => ?_⟩⟩
  · simp [gLs] at hv
    rcases hv with rfl | rfl
    · exact ⟨seq_two hA (by decide) (by decide), (by decide : In64 50)⟩
    · exact ⟨seq_two hB (by decide) (by decide), (by decide : In64 0)⟩
  · match i with
    | 0 => injection hv with hv; rw [← hv]; exact ⟨obj_cell hC rfl, obj_cell hC rfl⟩
    | 1 => injection hv with hv; rw [← hv]; exact ⟨obj_cell hC rfl, obj_cell hC rfl⟩
    | i + 2 => simp [gLs] at hv
theorem lrow_one {W : World} {A B C : Nat} (hA : W.heap[A]? = some (.cells #[.int .i64 0, .int .i64 100] 2 (0, 0))) (hC : W.heap[C]? = some (.cells (limC A B) 29 (0, 0))) : LRow W (some ⟨C, 0, none⟩) 1 [⟨some ⟨A, 0, none⟩, 2, 2, [0, 100], 50⟩] := by
  refine ⟨rfl, by decide, fun v hv => ?_, .inr ⟨C, 0, rfl, obj_lt hC, fun i v hv => ?_⟩⟩
  · simp at hv
    subst hv
    exact ⟨seq_two hA (by decide) (by decide), (by decide : In64 50)⟩
  · match i with
    | 0 => injection hv with hv; rw [← hv]; exact ⟨obj_cell hC rfl, obj_cell hC rfl⟩
    | i + 1 => simp at hv
theorem prow_two (w : World) (a b c d e f : Int) (h : In64 a ∧ In64 b ∧ In64 c ∧ In64 d ∧ In64 e ∧ In64 f) : PRow (w.alloc (.cells #[.int .i64 a, .int .i64 b, .int .i64 c, .int .i64 d, .int .i64 e, .int .i64 f] 39)) (some ⟨w.heap.size, 0, none⟩) 2 [⟨a, b, c⟩, ⟨d, e, f⟩] := by
  have hb := heap_alloc_new w (.cells #[.int .i64 a, .int .i64 b, .int .i64 c, .int .i64 d, .int .i64 e, .int .i64 f] 39)
  refine ⟨rfl, fun q hq => ?_, .inr ⟨_, 0, rfl, obj_lt hb, fun i q hq => ?_⟩⟩
  · simp at hq
    rcases hq with rfl | rfl
    · exact ⟨h.1, h.2.1, h.2.2.1⟩
    · exact ⟨h.2.2.2.1, h.2.2.2.2.1, h.2.2.2.2.2⟩
  · match i with
    | 0 => injection hq with hq; rw [← hq]; exact ⟨obj_cell hb rfl, obj_cell hb rfl, obj_cell hb rfl⟩
    | 1 => injection hq with hq; rw [← hq]; exact ⟨obj_cell hb rfl, obj_cell hb rfl, obj_cell hb rfl⟩
    | i + 2 => simp at hq
/-- behind the first New: a guard, its table, its limits as they came -/
structure AG (w : World) (A : Nat) (S : Nat → Prop) (gb lb b gL cL gF cF : Nat) (g : GM) (wr : World) : Prop where
  hw : HW w S gb lb b gL cL gF cF g wr
  tab : Tab wr (some ⟨w.heap.size, 0, none⟩) 2 gCs
  row : LRow wr (some ⟨A + 2, 0, none⟩) 1 [⟨some ⟨A, 0, none⟩, 2, 2, [0, 100], 50⟩]
set_option maxHeartbeats 8000000 in
set_option maxRecDepth 100000 in
theorem awake_any (w : World) : Calls Try.prog 4 #[] w fun e w' => e = .returned (.bool true) ∧ Below w.heap.size w w' := by
  have hT0 := tabG w
  have hw1 : Below w.heap.size w (w.alloc (.cells #[.string ⟨#[69, 85, 82]⟩, .int .i64 10000, .int .i64 0, .string ⟨#[85, 83, 68]⟩, .int .i64 12500, .int .i64 0] 42)) := (Below.refl _ _).alloc (Nat.le_refl _) _
  have hs1 : (w.alloc (.cells #[.string ⟨#[69, 85, 82]⟩, .int .i64 10000, .int .i64 0, .string ⟨#[85, 83, 68]⟩, .int .i64 12500, .int .i64 0] 42)).heap.size = w.heap.size + 1 := by simp
  have hg0 : (LM.new 2 2).Good := by
    obtain ⟨h1, h2⟩ := new_ok (nm := 2) (nc := 2) (by omega) (by omega)
    exact ⟨h1, h2⟩
  have cN : Calls Try.prog 9 #[.int .i64 2, .int .i64 2] (w.alloc (.cells #[.string ⟨#[69, 85, 82]⟩, .int .i64 10000, .int .i64 0, .string ⟨#[85, 83, 68]⟩, .int .i64 12500, .int .i64 0] 42)) fun e w' => ∃ lb, e = .returned (.tuple #[.pointer (some ⟨lb, 0, none⟩), .int .i64 0]) ∧ PL (fun j => w.heap.size + 1 ≤ j) w' lb (LM.new 2 2) ∧ Tab w' (some ⟨w.heap.size, 0, none⟩) 2 gCs ∧ Below w.heap.size w w' ∧ w.heap.size + 1 ≤ w'.heap.size := by
    refine (new_any 2 2 _).mono ?_
    rintro e w' ⟨h1, h2, h3⟩
    obtain ⟨lb, e1, hL⟩ := h1 (by decide)
    have hz := h3.size
    rw [hs1] at hL hz
    exact ⟨lb, e1, hL, hT0.kept h3, hw1.trans (h3.mono (by rw [hs1]; omega)), hz⟩
  have cW : ∀ (lb : Nat) (w2 : World), PL (fun j => w.heap.size + 1 ≤ j) w2 lb (LM.new 2 2) → Tab w2 (some ⟨w.heap.size, 0, none⟩) 2 gCs → Below w.heap.size w w2 → w.heap.size + 1 ≤ w2.heap.size →
      Calls Try.prog 10 #[.slice (some ⟨w.heap.size, 0, none⟩) 2 2, .pointer (some ⟨lb, 0, none⟩), .slice (some ⟨w2.heap.size + 2, 0, none⟩) 2 2] (((w2.alloc (.cells #[.int .i64 0, .int .i64 100] 2)).alloc (.cells #[.int .i64 0, .int .i64 0] 2)).alloc (.cells #[.slice (some ⟨w2.heap.size, 0, none⟩) 2 2, .int .i64 50, .slice (some ⟨w2.heap.size + 1, 0, none⟩) 2 2, .int .i64 0] 29)) fun e w' => ∃ gb b gL cL gF cF S, e = .returned (.tuple #[.pointer (some ⟨gb, 0, none⟩), .int .i64 0]) ∧ AG w w2.heap.size S gb lb b gL cL gF cF gG0 w' := fun lb w2 hL hT hb hsz => by
    have hb2 : Below w2.heap.size w2 (((w2.alloc (.cells #[.int .i64 0, .int .i64 100] 2)).alloc (.cells #[.int .i64 0, .int .i64 0] 2)).alloc (.cells (limC w2.heap.size (w2.heap.size + 1)) 29)) := (((Below.refl _ w2).alloc (Nat.le_refl _) _).alloc (by simp) _).alloc (by simp; omega) _
    have hvs : (((w2.alloc (.cells #[.int .i64 0, .int .i64 100] 2)).alloc (.cells #[.int .i64 0, .int .i64 0] 2)).alloc (.cells (limC w2.heap.size (w2.heap.size + 1)) 29)).heap.size = w2.heap.size + 3 := by simp
    have a2 : (((w2.alloc (.cells #[.int .i64 0, .int .i64 100] 2)).alloc (.cells #[.int .i64 0, .int .i64 0] 2)).alloc (.cells (limC w2.heap.size (w2.heap.size + 1)) 29)).heap[w2.heap.size + 2]? = some (.cells (limC w2.heap.size (w2.heap.size + 1)) 29 (0, 0)) := by
      have e := heap_alloc_new ((w2.alloc (.cells #[.int .i64 0, .int .i64 100] 2)).alloc (.cells #[.int .i64 0, .int .i64 0] 2)) (.cells (limC w2.heap.size (w2.heap.size + 1)) 29)
      simpa using e
    have a1 : (((w2.alloc (.cells #[.int .i64 0, .int .i64 100] 2)).alloc (.cells #[.int .i64 0, .int .i64 0] 2)).alloc (.cells (limC w2.heap.size (w2.heap.size + 1)) 29)).heap[w2.heap.size + 1]? = some (.cells #[.int .i64 0, .int .i64 0] 2 (0, 0)) := by
      have e := heap_alloc_new (w2.alloc (.cells #[.int .i64 0, .int .i64 100] 2)) (.cells #[.int .i64 0, .int .i64 0] 2)
      rw [World.size_alloc] at e
      exact (Below.heap_alloc _ _ _ (by simp)).trans e
    have a0 : (((w2.alloc (.cells #[.int .i64 0, .int .i64 100] 2)).alloc (.cells #[.int .i64 0, .int .i64 0] 2)).alloc (.cells (limC w2.heap.size (w2.heap.size + 1)) 29)).heap[w2.heap.size]? = some (.cells #[.int .i64 0, .int .i64 100] 2 (0, 0)) :=
      (Below.heap_alloc _ _ _ (by simp; omega)).trans ((Below.heap_alloc _ _ _ (by simp)).trans (heap_alloc_new w2 _))
    change Calls Try.prog 10 _ (((w2.alloc (.cells #[.int .i64 0, .int .i64 100] 2)).alloc (.cells #[.int .i64 0, .int .i64 0] 2)).alloc (.cells (limC w2.heap.size (w2.heap.size + 1)) 29)) _
    generalize ((w2.alloc (.cells #[.int .i64 0, .int .i64 100] 2)).alloc (.cells #[.int .i64 0, .int .i64 0] 2)).alloc (.cells (limC w2.heap.size (w2.heap.size + 1)) 29) = v at *
    have hLv : PL (fun j => w.heap.size + 1 ≤ j ∧ j < w2.heap.size) v lb (LM.new 2 2) := (PL.live lb _).kept ((PL.live lb _).weak hL fun j hj hp => ⟨hp, hj⟩) (Kp.of_below (F := fun _ => False) hb2) fun _ _ _ h => h
    have hTv := hT.kept hb2
    refine (newG_any (G' := fun j => j < w.heap.size + 1 ∨ w2.heap.size ≤ j ∧ j < v.heap.size) _ 2 2 gCs lb _ _ 2 2 (gLs w2.heap.size (w2.heap.size + 1)) v hTv hLv hg0 (lrow_lit a0 a1 a2) (fun j _ hp hg => by omega) (fun j hg => by omega)).mono ?_
    rintro e w' ⟨_, _, h3, h4⟩
    obtain ⟨gb, b, gL, cL, gF, cF, H, S, e1, hM⟩ := h3 chk_gCs rfl (g_lims _ _)
    have hk : ∀ j, (j < w.heap.size + 1 ∨ w2.heap.size ≤ j ∧ j < v.heap.size) → w'.heap[j]? = v.heap[j]? := fun j hj => h4.block j (by omega) fun e => e hj
    refine ⟨gb, b, gL, cL, gF, cF, S, e1, ⟨⟨H, ?_, fun j hj => hM.sub j (.inl (by omega))⟩, (hb.trans (hb2.mono (by omega))).trans (h4.below (by omega) fun j hj e => e (.inl (by omega)))⟩, hTv.at (by omega) h4.size (hk _ (.inl (by omega))), lrow_one (B := w2.heap.size + 1) ((hk _ (.inr (by omega))).trans a0) ((hk _ (.inr (by omega))).trans a2)⟩
    have hgg := hM.gg
    rw [gLs_eq] at hgg
    exact hgg
  have cW1 : ∀ (A : Nat) (S : Nat → Prop) (gb lb b gL cL gF cF : Nat) (wr : World), AG w A S gb lb b gL cL gF cF gG0 wr → Calls Try.prog 10 #[.slice (some ⟨w.heap.size, 0, none⟩) 2 2, .pointer (some ⟨lb, 0, none⟩), .slice (some ⟨A + 2, 0, none⟩) 1 2] wr fun e w' => e = .returned (.tuple #[.pointer none, .int .i64 1]) ∧ HW w S gb lb b gL cL gF cF gG0 w' := fun A S gb lb b gL cL gF cF wr h => by
    obtain ⟨G, h1, h2⟩ := h.hw.gg
    obtain ⟨P, hP⟩ := h1.st.pl
    refine (newG_any (G' := fun _ => False) _ 2 2 gCs lb _ _ 1 2 _ wr h.tab hP h1.st.good h.row (fun j _ _ hg => hg) (fun j hg => hg.elim)).mono ?_
    rintro e w' ⟨_, h3, _, _⟩
    obtain ⟨e1, hb⟩ := h3 chk_gCs (.inr (g_lim1 A 0))
    exact ⟨e1, h.hw.below hb⟩
  have c0 : ∀ (S : Nat → Prop) (gb lb b gL cL gF cF : Nat) (wr : World), HW w S gb lb b gL cL gF cF gG0 wr → Calls Try.prog 7 #[.pointer (some ⟨gb, 0, none⟩), .int .i64 0, .int .i64 0, .int .i64 100] wr fun e w' => e = .returned (.int .i64 0) ∧ HW w S gb lb b gL cL gF cF gG1 w' := fun S gb lb b gL cL gF cF wr h => by
    have := h.inn 0 0 100 (by decide) (by decide) (by decide)
    rw [g_in0] at this
    exact this
  have c1 : ∀ (S : Nat → Prop) (gb lb b gL cL gF cF : Nat) (wr : World), HW w S gb lb b gL cL gF cF gG1 wr → Calls Try.prog 7 #[.pointer (some ⟨gb, 0, none⟩), .int .i64 1, .int .i64 1, .int .i64 100] wr fun e w' => e = .returned (.int .i64 0) ∧ HW w S gb lb b gL cL gF cF gG2 w' := fun S gb lb b gL cL gF cF wr h => by
    have := h.inn 1 1 100 (by decide) (by decide) (by decide)
    rw [g_in1] at this
    exact this
  have c2 : ∀ (S : Nat → Prop) (gb lb b gL cL gF cF : Nat) (wr : World), HW w S gb lb b gL cL gF cF gG2 wr → Calls Try.prog 8 #[.pointer (some ⟨gb, 0, none⟩), .int .i64 0, .slice (some ⟨wr.heap.size, 0, none⟩) 2 2] (wr.alloc (.cells #[.int .i64 0, .int .i64 0, .int .i64 (-90), .int .i64 0, .int .i64 1, .int .i64 (-60)] 39)) fun e w' => e = .returned (.int .i64 5) ∧ HW w S gb lb b gL cL gF cF gG2 w' := fun S gb lb b gL cL gF cF wr h => by
    have := h.fails (cap := 2) 0 ((Below.refl _ wr).alloc (Nat.le_refl _) _) (prow_two wr 0 0 (-90) 0 1 (-60) (by decide)) (.inr ⟨_, 0, rfl, .inr (Nat.le_refl _)⟩) (by omega)
    rw [g_fail] at this
    exact this
  have c3 : ∀ (S : Nat → Prop) (gb lb b gL cL gF cF : Nat) (wr : World), HW w S gb lb b gL cL gF cF gG2 wr → Calls Try.prog 11 #[.pointer (some ⟨gb, 0, none⟩), .slice (some ⟨wr.heap.size, 0, none⟩) 2 2] (wr.alloc (.cells #[.int .i64 0, .int .i64 1, .int .i64 (-40), .int .i64 1, .int .i64 1, .int .i64 40] 39)) fun e w' => e = .returned (.int .i64 0) ∧ HW w S gb lb b gL cL gF cF gG3 w' := fun S gb lb b gL cL gF cF wr h => by
    have := h.book (cap := 2) ((Below.refl _ wr).alloc (Nat.le_refl _) _) (prow_two wr 0 1 (-40) 1 1 40 (by decide)) (.inr ⟨_, 0, rfl, .inr (Nat.le_refl _)⟩) (by omega)
    rw [g_bk1] at this
    exact this
  have c4 : ∀ (S : Nat → Prop) (gb lb b gL cL gF cF : Nat) (wr : World), HW w S gb lb b gL cL gF cF gG3 wr → Calls Try.prog 11 #[.pointer (some ⟨gb, 0, none⟩), .slice (some ⟨wr.heap.size, 0, none⟩) 2 2] (wr.alloc (.cells #[.int .i64 0, .int .i64 1, .int .i64 (-1), .int .i64 1, .int .i64 1, .int .i64 1] 39)) fun e w' => e = .returned (.int .i64 10) ∧ HW w S gb lb b gL cL gF cF gG3 w' := fun S gb lb b gL cL gF cF wr h => by
    have := h.book (cap := 2) ((Below.refl _ wr).alloc (Nat.le_refl _) _) (prow_two wr 0 1 (-1) 1 1 1 (by decide)) (.inr ⟨_, 0, rfl, .inr (Nat.le_refl _)⟩) (by omega)
    rw [g_bk2] at this
    exact this
  have c5 : ∀ (S : Nat → Prop) (gb lb b gL cL gF cF : Nat) (wr : World), HW w S gb lb b gL cL gF cF gG3 wr → Calls Try.prog 12 #[.pointer (some ⟨gb, 0, none⟩), .int .i64 1, .int .i64 12600] wr fun e w' => e = .returned (.int .i64 0) ∧ HW w S gb lb b gL cL gF cF gG4 w' := fun S gb lb b gL cL gF cF wr h => by
    have := h.rate 1 12600 (by decide)
    rw [g_rate] at this
    exact this
  have c6 : ∀ (S : Nat → Prop) (gb lb b gL cL gF cF : Nat) (wr : World), HW w S gb lb b gL cL gF cF gG4 wr → Calls Try.prog 13 #[.pointer (some ⟨gb, 0, none⟩), .int .i64 0, .int .i64 0, .int .i64 1] wr fun e w' => e = .returned (.int .i64 10) ∧ HW w S gb lb b gL cL gF cF gG4 w' := fun S gb lb b gL cL gF cF wr h => by
    have := h.out 0 0 1 (by decide) (by decide) (by decide)
    rw [g_out1] at this
    exact this
  have c7 : ∀ (S : Nat → Prop) (gb lb b gL cL gF cF : Nat) (wr : World), HW w S gb lb b gL cL gF cF gG4 wr → Calls Try.prog 13 #[.pointer (some ⟨gb, 0, none⟩), .int .i64 1, .int .i64 1, .int .i64 10] wr fun e w' => e = .returned (.int .i64 0) ∧ HW w S gb lb b gL cL gF cF gG5 w' := fun S gb lb b gL cL gF cF wr h => by
    have := h.out 1 1 10 (by decide) (by decide) (by decide)
    rw [g_out2] at this
    exact this
  have c8 : ∀ (S : Nat → Prop) (gb lb b gL cL gF cF : Nat) (wr : World), HW w S gb lb b gL cL gF cF gG5 wr → Calls Try.prog 14 #[.pointer (some ⟨gb, 0, none⟩), .int .i64 0] wr fun e w' => e = .returned (.bool true) ∧ wr = w' := fun S gb lb b gL cL gF cF wr h => by
    have := h.flagged 0
    rw [g_fl50] at this
    exact this
  have c9 : ∀ (S : Nat → Prop) (gb lb b gL cL gF cF : Nat) (wr : World), HW w S gb lb b gL cL gF cF gG5 wr → Calls Try.prog 14 #[.pointer (some ⟨gb, 0, none⟩), .int .i64 1] wr fun e w' => e = .returned (.bool false) ∧ wr = w' := fun S gb lb b gL cL gF cF wr h => by
    have := h.flagged 1
    rw [g_fl51] at this
    exact this
  have c10 : ∀ (S : Nat → Prop) (gb lb b gL cL gF cF : Nat) (wr : World), HW w S gb lb b gL cL gF cF gG5 wr → Calls Try.prog 14 #[.pointer (some ⟨gb, 0, none⟩), .int .i64 2] wr fun e w' => e = .returned (.bool false) ∧ wr = w' := fun S gb lb b gL cL gF cF wr h => by
    have := h.flagged 2
    rw [g_fl52] at this
    exact this
  have c11 : ∀ (S : Nat → Prop) (gb lb b gL cL gF cF : Nat) (wr : World), HW w S gb lb b gL cL gF cF gG5 wr → Calls Try.prog 15 #[.pointer (some ⟨lb, 0, none⟩), .int .i64 1, .int .i64 1] wr fun e w' => e = .returned (.int .i64 130) ∧ wr = w' := fun S gb lb b gL cL gF cF wr h => by
    have := h.get 1 1
    rw [g_get] at this
    exact this
  replace cN := Lib.hid cN
  replace cW := Lib.hid cW
  replace cW1 := Lib.hid cW1
  replace c0 := Lib.hid c0
  replace c1 := Lib.hid c1
  replace c2 := Lib.hid c2
  replace c3 := Lib.hid c3
  replace c4 := Lib.hid c4
  replace c5 := Lib.hid c5
  replace c6 := Lib.hid c6
  replace c7 := Lib.hid c7
  replace c8 := Lib.hid c8
  replace c9 := Lib.hid c9
  replace c10 := Lib.hid c10
  replace c11 := Lib.hid c11
  replace hT0 := Lib.hid hT0
  replace hw1 := Lib.hid hw1
  replace hg0 := Lib.hid hg0
  clear hs1
  go_enter Try.func4, Try.ntmps4
  go_wp2_with fail
  with_reducible refine cN.out.mono ?_
  rintro e w2 ⟨lb, rfl, hL2, hT2, hB2, hz2⟩
  have cW2 := Lib.hid (cW.out lb w2 hL2 hT2 hB2 hz2)
  replace hL2 := Lib.hid hL2
  replace hT2 := Lib.hid hT2
  replace hB2 := Lib.hid hB2
  replace hz2 := Lib.hid hz2
  go_wp2_with fail
  with_reducible refine cW2.out.mono ?_
  rintro e w3 ⟨gb, b, gL, cL, gF, cF, S, rfl, hS3⟩
  replace hS3 := Lib.hid hS3
  go_wp2_with fail
  with_reducible refine (cW1.out _ _ _ _ _ _ _ _ _ _ hS3.out).mono ?_
  rintro e w4 ⟨rfl, hS4⟩
  replace hS4 := Lib.hid hS4
  go_wp2_with fail
  with_reducible refine (c0.out _ _ _ _ _ _ _ _ _ hS4.out).mono ?_
  rintro e w5 ⟨rfl, hS5⟩
  replace hS5 := Lib.hid hS5
  go_wp2_with fail
  with_reducible refine (c1.out _ _ _ _ _ _ _ _ _ hS5.out).mono ?_
  rintro e w6 ⟨rfl, hS6⟩
  replace hS6 := Lib.hid hS6
  go_wp2_with fail
  with_reducible refine (c2.out _ _ _ _ _ _ _ _ _ hS6.out).mono ?_
  rintro e w7 ⟨rfl, hS7⟩
  replace hS7 := Lib.hid hS7
  go_wp2_with fail
  with_reducible refine (c3.out _ _ _ _ _ _ _ _ _ hS7.out).mono ?_
  rintro e w8 ⟨rfl, hS8⟩
  replace hS8 := Lib.hid hS8
  go_wp2_with fail
  with_reducible refine (c4.out _ _ _ _ _ _ _ _ _ hS8.out).mono ?_
  rintro e w9 ⟨rfl, hS9⟩
  replace hS9 := Lib.hid hS9
  go_wp2_with fail
  with_reducible refine (c5.out _ _ _ _ _ _ _ _ _ hS9.out).mono ?_
  rintro e w10 ⟨rfl, hS10⟩
  replace hS10 := Lib.hid hS10
  go_wp2_with fail
  with_reducible refine (c6.out _ _ _ _ _ _ _ _ _ hS10.out).mono ?_
  rintro e w11 ⟨rfl, hS11⟩
  replace hS11 := Lib.hid hS11
  go_wp2_with fail
  with_reducible refine (c7.out _ _ _ _ _ _ _ _ _ hS11.out).mono ?_
  rintro e w12 ⟨rfl, hS12⟩
  replace hS12 := Lib.hid hS12
  go_wp2_with fail
  with_reducible refine (c8.out _ _ _ _ _ _ _ _ _ hS12.out).mono ?_
  rintro e v8 ⟨rfl, rfl⟩
  go_wp2_with fail
  with_reducible refine (c9.out _ _ _ _ _ _ _ _ _ hS12.out).mono ?_
  rintro e v9 ⟨rfl, rfl⟩
  go_wp2_with fail
  with_reducible refine (c10.out _ _ _ _ _ _ _ _ _ hS12.out).mono ?_
  rintro e v10 ⟨rfl, rfl⟩
  go_wp2_with fail
  with_reducible refine (c11.out _ _ _ _ _ _ _ _ _ hS12.out).mono ?_
  rintro e v11 ⟨rfl, rfl⟩
  go_wp2_with fail
  go_ret
  exact ⟨rfl, hS12.out.blw⟩
end Go.Proofs.Ytljclgphgojphaa
