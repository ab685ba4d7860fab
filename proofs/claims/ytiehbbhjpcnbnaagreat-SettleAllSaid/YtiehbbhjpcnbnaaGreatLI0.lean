/- The contract of balanced.
  The contract of Read. -/
import Derived.Test.YtiehbbhjpcnbnaaGreatMAL
import Derived.Test.YtiehbbhjpcnbnaaGreatMAG
import Derived.Deep.RegionWith
namespace Go.Proofs.YtiehbbhjpcnbnaaGreat
open Go.RowKit
set_option linter.unusedVariables false

/-- a column of so many members' -/
def colB (B : Nat → Nat → Int) (k c : Nat) : List Int := (List.range k).map fun m => B m c
theorem colB_len (B : Nat → Nat → Int) (k c : Nat) : (colB B k c).length = k := by unfold colB; simp
theorem colB_succ (B : Nat → Nat → Int) (k c : Nat) : colB B (k + 1) c = colB B k c ++ [B k c] := by unfold colB; rw [List.range_succ, List.map_append]; rfl
theorem sumL_app : ∀ (a b : List Int), sumL (a ++ b) = sumL a + sumL b
  | [], b => by show sumL b = 0 + sumL b; omega
  | x :: a, b => by
    show x + sumL (a ++ b) = x + sumL a + sumL b
    rw [sumL_app a b]; omega
theorem colB_sum (B : Nat → Nat → Int) (c : Nat) : ∀ k, sumL (colB B k c) = sumM (fun m => B m c) k
  | 0 => rfl
  | k + 1 => by
    rw [colB_succ, sumL_app, colB_sum B c k]
    show _ + (B k c + 0) = sumM (fun m => B m c) k + B k c
    omega
/-- columns of k members' and of so many amounts of the next one's -/
def colsK (B : Nat → Nat → Int) (k j : Nat) : Nat → List Int := fun c => if c < j then colB B (k + 1) c else colB B k c
theorem colsK_succ (B : Nat → Nat → Int) (k j : Nat) : upd (colsK B k j) j (colsK B k j j ++ [B k j]) = colsK B k (j + 1) := by
  funext c
  unfold upd colsK
  by_cases e : c = j
  · subst e
    rw [if_pos rfl, if_neg (by omega), if_pos (by omega), colB_succ]
  · rw [if_neg e]
    by_cases h : c < j
    · rw [if_pos h, if_pos (by omega)]
    · rw [if_neg h, if_neg (by omega)]
theorem CS.congr {B : Nat} {w : World} {g : Nat} {cols cols' : Nat → List Int} {v : Nat → Value} (h : CS B w g cols v) (e : ∀ c, c < 8 → cols c = cols' c) : CS B w g cols' v :=
  ⟨h.obj, fun c hc => by rw [← e c hc]; exact h.own c hc, h.apart⟩
theorem colsK_all (B : Nat → Nat → Int) (k : Nat) : ∀ c, c < 8 → colsK B k 8 c = colsK B (k + 1) 0 c := fun c hc => by
  unfold colsK; rw [if_pos hc, if_neg (by omega)]
theorem index59 (f : Nat → Int) (w : World) {c : Nat} (hc : c < 8) : (Instr.index 77 (.agg (r8 f)) (.int .i64 (c : Int))).run Tryz.prog w = .ok (.int .i64 (f c)) w := by
  rcases lt8 hc with rfl | rfl | rfl | rfl | rfl | rfl | rfl | rfl <;> kernel_rfl
/-- what balanced tells -/
def balB (l : LM) : Bool := fitC (fun c => colB l.B l.nm c) && eqR (sumR fun c => colB l.B l.nm c) l.N
/-- what there is beside a ledger's currencies is 0 -/
structure LM.Zero (l : LM) : Prop where
  nb : ∀ m c, m < l.nm → c < 8 → ¬ c < l.nc → l.B m c = 0
  nn : ∀ c, c < 8 → ¬ c < l.nc → l.N c = 0
theorem sumM_none {f : Nat → Int} : ∀ n, (∀ m, m < n → f m = 0) → sumM f n = 0
  | 0, _ => rfl
  | n + 1, h => by
    show sumM f n + f n = 0
    rw [sumM_none n fun m hm => h m (by omega), h n (by omega)]
    rfl
theorem balB_eq {l : LM} (hc : l.nc ≤ 8) (hn : ∀ c, In64 (l.N c)) (hz : l.Zero) : balB l = sumsL l := by
  refine Bool.eq_iff_iff.2 ?_
  unfold balB sumsL
  rw [Bool.and_eq_true, fitC_iff]
  constructor
  · rintro ⟨h1, h2⟩
    have hf : fitC (fun c => colB l.B l.nm c) = true := fitC_iff.2 h1
    unfold eqR sumR at h2
    rw [hf, List.all_eq_true] at h2
    rw [List.all_eq_true]
    intro c hcm
    have hc' := List.mem_range.1 hcm
    have := h2 c (List.mem_range.2 (by omega))
    simp only [if_true] at this
    rw [colB_sum] at this
    exact this
  · intro h
    rw [List.all_eq_true] at h
    have hs : ∀ c, c < 8 → sumM (fun m => l.B m c) l.nm = l.N c := fun c hc8 => by
      by_cases e : c < l.nc
      · simpa using h c (List.mem_range.2 e)
      · rw [hz.nn c hc8 e, sumM_none _ fun m hm => hz.nb m c hm hc8 e]
    have h1 : ∀ c, c < 8 → In64 (sumL (colB l.B l.nm c)) := fun c hc8 => by rw [colB_sum, hs c hc8]; exact hn c
    refine ⟨h1, ?_⟩
    unfold eqR sumR
    rw [fitC_iff.2 h1, List.all_eq_true]
    intro c hcm
    have hc8 := List.mem_range.1 hcm
    simp only [if_true]
    rw [colB_sum, hs c hc8]
    simp
/-- balanced's way -/
structure BSt (w : World) (l : LM) (k j : Nat) (v : Nat → Value) (wr : World) : Prop where
  cs : CS w.heap.size wr w.heap.size (colsK l.B k j) v
  blw : Below w.heap.size w wr
theorem colsK_len (B : Nat → Nat → Int) (k j c : Nat) : (colsK B k j c).length ≤ k + 1 := by
  unfold colsK
  split
  · rw [colB_len]; omega
  · rw [colB_len]; omega

set_option maxHeartbeats 4000000 in
set_option maxRecDepth 100000 in
theorem balanced_any {P : Nat → Prop} {b gB cB : Nat} {l : LM} (w : World) (h : PLv P w b l gB cB) (hb64 : ∀ m c, In64 (l.B m c)) :
    Calls Tryz.prog 29 #[.pointer (some ⟨b, 0, none⟩)] w fun e w' => e = .returned (.bool (balB l)) ∧ Below w.heap.size w w' := by
  have hB0 : Below w.heap.size w (w.alloc (.cells #[.slice none 0 0, .slice none 0 0, .slice none 0 0, .slice none 0 0, .slice none 0 0, .slice none 0 0, .slice none 0 0, .slice none 0 0] 118)) := (Below.refl _ w).alloc (Nat.le_refl _) _
  have hS0 : BSt w l 0 0 (fun _ => .slice none 0 0) (w.alloc (.cells #[.slice none 0 0, .slice none 0 0, .slice none 0 0, .slice none 0 0, .slice none 0 0, .slice none 0 0, .slice none 0 0, .slice none 0 0] 118)) := ⟨(CS.made _ w).congr fun c hc => by unfold colsK colB; simp, hB0⟩
  have c9 := (h.below hB0).c9
  have hnm := h.nm
  replace hS0 := Lib.hid hS0
  replace hB0 := Lib.hid hB0
  replace hb64 := Lib.hid hb64
  replace h := Lib.hid h
  go_enter Tryz.func29, Tryz.ntmps29
  go_upto_region 3 with (fail)
  go_loopw [15] (fun i wr => ∃ (k : Nat) (v : Nat → Value), k ≤ l.nm ∧ i = .int .i64 (k : Int) ∧ Hid (BSt w l k 0 v wr)) (fun i _ => l.nm - (intOf i).toNat)
  case atStart => exact ⟨0, _, by omega, rfl, hS0⟩
  case round =>
    obtain ⟨k, v, hk, rfl, hS⟩ := hrel
    by_cases hkn : k < l.nm
    · have kz : (k : Int) < (l.nm : Int) := by omega
      have hR := h.out.below hS.out.blw
      have hws := hS.out.blw.size
      obtain ⟨b0, b1, b2, b3, b4, b5, b6, b7⟩ := hR.bal.cells hkn
      have hnew := BX.made wr (l.B k)
      have hS1 : BSt w l k 0 v (wr.alloc (.cells (r8 (l.B k)) 77)) := ⟨hS.out.cs.at fun j hj => Below.heap_alloc _ _ _ hj, hS.out.blw.alloc hws _⟩
      have hix := fun w c hc => @index59 (l.B k) w c hc
      unfold r8 at hnew hS1 hix
      generalize hv : wr.alloc (.cells #[.int .i64 (l.B k 0), .int .i64 (l.B k 1), .int .i64 (l.B k 2), .int .i64 (l.B k 3), .int .i64 (l.B k 4), .int .i64 (l.B k 5), .int .i64 (l.B k 6), .int .i64 (l.B k 7)] 77) = u at *
      obtain ⟨x0, x1, x2, x3, x4, x5, x6, x7⟩ := hnew.cells
      replace hv := Lib.hid hv
      replace hnew := Lib.hid hnew
      replace hS1 := Lib.hid hS1
      replace hR := Lib.hid hR
      replace hix := Lib.hid hix
      go_upto_region 5 with (fail)
      change Code.wp _ _ _ _ (wr.alloc (.cells #[.int .i64 (l.B k 0), .int .i64 (l.B k 1), .int .i64 (l.B k 2), .int .i64 (l.B k 3), .int .i64 (l.B k 4), .int .i64 (l.B k 5), .int .i64 (l.B k 6), .int .i64 (l.B k 7)] 77))
      rw [hv.out]
      go_upto_region 6 with (fail)
      clear b0 b1 b2 b3 b4 b5 b6 b7 x0 x1 x2 x3 x4 x5 x6 x7
      go_loopw [20] (fun i wr => ∃ (j : Nat) (v : Nat → Value), j ≤ 8 ∧ i = .int .i64 (j : Int) ∧ Hid (BSt w l k j v wr)) (fun i _ => 8 - (intOf i).toNat)
      case atStart => exact ⟨0, _, by omega, rfl, hS1⟩
      case round =>
        obtain ⟨j, v, hj, rfl, hS⟩ := hrel
        by_cases hj8 : j < 8
        · have jz : (j : Int) < 8 := by omega
          have hik := fun w => hix.out w j hj8
          have hT := hS.out
          have hws := hT.blw.size
          have hC := hT.cs
          have hgl := obj_lt hC.obj
          have hC2 := hC.at (w' := wr.alloc (.cells #[.int .i64 (l.B k j)] 2)) (fun y hy => Below.heap_alloc _ _ _ hy)
          have x0 : wr.cell? ⟨w.heap.size, j, none⟩ = some (v j) := obj_cell hC.obj (c8_get v hj8)
          have hxa : (wr.alloc (.cells #[.int .i64 (l.B k j)] 2)).cell? ((⟨wr.heap.size, 0, none⟩ : Addr).add 0) = some (.int .i64 (l.B k j)) := obj_cell (heap_alloc_new wr (.cells #[.int .i64 (l.B k j)] 2)) rfl
          have hll := colsK_len l.B k j j
          obtain ⟨v', w', hrun, hO, hG, hL⟩ := appX_run _ w.heap.size (v j) _ (hC2.own j hj8) (by simp; omega) _ _ hxa (by omega)
          have hC3 := hC2.more hj8 hO hG hL
          rw [colsK_succ] at hC3
          have hfin : BSt w l k (j + 1) (upd v j v') (w'.setCell ⟨w.heap.size, j, none⟩ v') := ⟨hC3, ((hT.blw.alloc hws _).grown hG (by simp; omega) (fun y hy => ((hC2.own j hj8).lt y hy).1)).setCell (Nat.le_refl _) _⟩
          have hgs : w'.heap[w.heap.size]? = some (.cells (c8 v) 118 (0, 0)) := (hG.block _ (by simp; omega) (fun e => by
            obtain ⟨cs, hcs⟩ := (hC2.own j hj8).obj e.symm
            rw [hC2.obj] at hcs
            simp at hcs)).trans hC2.obj
          have k0 : w'.cell? ⟨w.heap.size, j, none⟩ = some (v j) := obj_cell hgs (c8_get v hj8)
          have z0 := obj_free hgs j
          obtain ⟨pv, cv, hvj⟩ := (hC2.own j hj8).shape
          obtain ⟨pv', cv', hvj'⟩ := hO.shape
          rw [hvj] at hrun x0 k0
          rw [hvj'] at hrun hfin
          generalize (colsK l.B k j j).length = n1 at *
          generalize (colsK l.B k j j ++ [l.B k j]).length = n2 at *
          generalize l.B k j = y at *
          replace hC := Lib.hid hC
          replace hC2 := Lib.hid hC2
          replace hC3 := Lib.hid hC3
          replace hT := Lib.hid hT
          replace hO := Lib.hid hO
          replace hG := Lib.hid hG
          replace hL := Lib.hid hL
          replace hgs := Lib.hid hgs
          replace hrun := Lib.hid hrun
          replace hfin := Lib.hid hfin
          replace hvj := Lib.hid hvj
          replace hvj' := Lib.hid hvj'
          replace hxa := Lib.hid hxa
          go_wp2_with (at_builtin; refine wpList_run rfl (.tmp 27) (.tmp 29) 56 56 rfl _ _ _ _ rfl rfl hrun.out ?_)
          go_roundw
          case rel => exact ⟨j + 1, _, by omega, by go_num, hfin⟩
          case measure => simp [intOf]; omega
        · obtain rfl : j = 8 := by omega
          have hS2 : Hid (BSt w l (k + 1) 0 v wr) := Lib.hid ⟨hS.out.cs.congr (colsK_all l.B k), hS.out.blw⟩
          go_wp2_with fail
          go_roundw
          case rel => exact ⟨k + 1, _, by omega, by go_num, hS2⟩
          case measure => simp [intOf]; omega
    · obtain rfl : k = l.nm := by omega
      have kz : ¬ (l.nm : Int) < (l.nm : Int) := by omega
      have hT := hS.out
      have hC : CS w.heap.size wr w.heap.size (fun c => colB l.B l.nm c) v := hT.cs.congr fun c hc => by unfold colsK; rw [if_neg (by omega)]
      have hsl : ∀ c, ∃ p m, c < 8 → v c = .slice p (colB l.B l.nm c).length m := fun c => by
        by_cases hc : c < 8
        · obtain ⟨p, m, e⟩ := (hC.own c hc).shape
          exact ⟨p, m, fun _ => e⟩
        · exact ⟨none, 0, fun h => absurd h hc⟩
      obtain ⟨p', hp'⟩ := Classical.skolem.1 hsl
      obtain ⟨m', hm'⟩ := Classical.skolem.1 hp'
      have x0 : wr.cell? ⟨w.heap.size, 0, none⟩ = some (.slice (p' 0) (colB l.B l.nm 0).length (m' 0)) := (obj_cell hC.obj (c8_get v (c := 0) (by omega))).trans (by rw [hm' 0 (by omega)])
      have x1 : wr.cell? ⟨w.heap.size, 1, none⟩ = some (.slice (p' 1) (colB l.B l.nm 1).length (m' 1)) := (obj_cell hC.obj (c8_get v (c := 1) (by omega))).trans (by rw [hm' 1 (by omega)])
      have x2 : wr.cell? ⟨w.heap.size, 2, none⟩ = some (.slice (p' 2) (colB l.B l.nm 2).length (m' 2)) := (obj_cell hC.obj (c8_get v (c := 2) (by omega))).trans (by rw [hm' 2 (by omega)])
      have x3 : wr.cell? ⟨w.heap.size, 3, none⟩ = some (.slice (p' 3) (colB l.B l.nm 3).length (m' 3)) := (obj_cell hC.obj (c8_get v (c := 3) (by omega))).trans (by rw [hm' 3 (by omega)])
      have x4 : wr.cell? ⟨w.heap.size, 4, none⟩ = some (.slice (p' 4) (colB l.B l.nm 4).length (m' 4)) := (obj_cell hC.obj (c8_get v (c := 4) (by omega))).trans (by rw [hm' 4 (by omega)])
      have x5 : wr.cell? ⟨w.heap.size, 5, none⟩ = some (.slice (p' 5) (colB l.B l.nm 5).length (m' 5)) := (obj_cell hC.obj (c8_get v (c := 5) (by omega))).trans (by rw [hm' 5 (by omega)])
      have x6 : wr.cell? ⟨w.heap.size, 6, none⟩ = some (.slice (p' 6) (colB l.B l.nm 6).length (m' 6)) := (obj_cell hC.obj (c8_get v (c := 6) (by omega))).trans (by rw [hm' 6 (by omega)])
      have x7 : wr.cell? ⟨w.heap.size, 7, none⟩ = some (.slice (p' 7) (colB l.B l.nm 7).length (m' 7)) := (obj_cell hC.obj (c8_get v (c := 7) (by omega))).trans (by rw [hm' 7 (by omega)])
      have hsum := sums_any p' (fun c => (colB l.B l.nm c).length) m' (fun c => colB l.B l.nm c) wr (fun c hc => by
        have ho := hC.own c hc
        rw [hm' c hc] at ho
        refine ho.seq (fun x hx => ?_) (by rw [colB_len]; omega)
        unfold colB at hx
        obtain ⟨m, _, rfl⟩ := List.mem_map.1 hx
        exact hb64.out m c)
      have hblw := hT.blw
      have hbal : balB l = (fitC (fun c => colB l.B l.nm c) && eqR (sumR fun c => colB l.B l.nm c) l.N) := rfl
      generalize (fun c => colB l.B l.nm c) = cols at *
      unfold c8 SumsP at hsum
      replace hT := Lib.hid hT
      replace hC := Lib.hid hC
      replace hsl := Lib.hid hsl
      replace hm' := Lib.hid hm'
      replace hp' := Lib.hid hp'
      replace hblw := Lib.hid hblw
      replace hsum := Lib.hid hsum
      replace hbal := Lib.hid hbal
      go_wp2_with fail
      with_reducible refine hsum.out.mono ?_
      rintro e w1 ⟨rfl, hb1⟩
      have hBu : Below w.heap.size w (w1.alloc (.cells (r8 (sumR cols)) 77)) := (hblw.out.trans (hb1.mono hblw.out.size)).alloc (Nat.le_trans hblw.out.size hb1.size) _
      have hnew := BX.made w1 (sumR cols)
      have hq := fun w => eqrow_run (sumR cols) l.N w
      have hRu := h.out.below hBu
      replace hb1 := Lib.hid hb1
      unfold r8 at hq hBu hnew hRu ⊢
      generalize hu : w1.alloc (.cells #[.int .i64 (sumR cols 0), .int .i64 (sumR cols 1), .int .i64 (sumR cols 2), .int .i64 (sumR cols 3), .int .i64 (sumR cols 4), .int .i64 (sumR cols 5), .int .i64 (sumR cols 6), .int .i64 (sumR cols 7)] 77) = u at *
      obtain ⟨y0, y1, y2, y3, y4, y5, y6, y7⟩ := hnew.cells
      obtain ⟨n0, n1, n2, n3, n4, n5, n6, n7⟩ := hRu.ncells
      replace hu := Lib.hid hu
      replace hBu := Lib.hid hBu
      replace hnew := Lib.hid hnew
      replace hRu := Lib.hid hRu
      cases hfc : fitC cols with
      | true =>
        rw [hfc] at hbal
        simp only [if_true]
        go_upto_region 12 with (fail)
        change Code.wp _ _ _ _ (w1.alloc (.cells #[.int .i64 (sumR cols 0), .int .i64 (sumR cols 1), .int .i64 (sumR cols 2), .int .i64 (sumR cols 3), .int .i64 (sumR cols 4), .int .i64 (sumR cols 5), .int .i64 (sumR cols 6), .int .i64 (sumR cols 7)] 77))
        rw [hu.out]
        go_quiet (fail)
        go_wp2_with fail
        go_ret
        exact ⟨retL_bool (by rw [hbal.out]; simp), below_drewN hBu.out _⟩
      | false =>
        rw [hfc] at hbal
        simp only [Bool.false_eq_true, if_false]
        go_upto_region 12 with (fail)
        change Code.wp _ _ _ _ (w1.alloc (.cells #[.int .i64 (sumR cols 0), .int .i64 (sumR cols 1), .int .i64 (sumR cols 2), .int .i64 (sumR cols 3), .int .i64 (sumR cols 4), .int .i64 (sumR cols 5), .int .i64 (sumR cols 6), .int .i64 (sumR cols 7)] 77))
        rw [hu.out]
        go_quiet (fail)
        go_wp2_with fail
        go_ret
        exact ⟨retL_bool (by rw [hbal.out]; simp), below_drewN hBu.out _⟩
end Go.Proofs.YtiehbbhjpcnbnaaGreat
namespace Go.Proofs.YtiehbbhjpcnbnaaGreat
open Go.RowKit
set_option linter.unusedVariables false

theorem PLv.gb {P : Nat → Prop} {w : World} {b gB cB : Nat} {l : LM} (h : PLv P w b l gB cB) : gB ≠ b := by
  rintro rfl
  have h1 := h.obj
  obtain ⟨cs', h2, _⟩ := h.bal
  rw [h1] at h2
  simp at h2
theorem PLv.putN {P : Nat → Prop} {w : World} {b gB cB : Nat} {l : LM} (h : PLv P w b l gB cB) (f : Nat → Int) : PLv P (st8 w b 1 f) b ⟨l.nm, l.nc, l.B, f⟩ gB cB :=
  ⟨lObj_set h.obj f, h.bal.at (st8_other _ _ _ h.gb), h.nm, h.nc, h.own⟩
theorem PLv.putB {P : Nat → Prop} {w : World} {b gB cB : Nat} {l : LM} (h : PLv P w b l gB cB) {m : Nat} (hm : m < l.nm) (r : Nat → Int) : PLv P (st8 w gB (m * 8) r) b ⟨l.nm, l.nc, updR l.B m r, l.N⟩ gB cB :=
  ⟨(st8_other w (m * 8) r (Ne.symm h.gb)).trans h.obj, h.bal.set hm r, h.nm, h.nc, h.own⟩
theorem rowT_drop {l m : List UInt8} {a n : Nat} (h : m = l.drop a) : rowT m 0 n = rowT l a n := by
  subst h
  funext c
  unfold rowT
  split
  · unfold amt
    rw [List.drop_drop, Nat.zero_add]
  · rfl
theorem told_N (s : List UInt8) : (toldL s).N = rowT s 2 (toldL s).nc := rfl
theorem told_B (s : List UInt8) {k : Nat} (hk : k < (toldL s).nm) : (toldL s).B k = rowT s (2 + 8 * (toldL s).nc * (1 + k)) (toldL s).nc := by
  funext c
  show (if k < (toldL s).nm ∧ c < (toldL s).nc then amt s (2 + 8 * ((toldL s).nc * (k + 1) + c)) else 0) = _
  unfold rowT
  by_cases h : c < (toldL s).nc
  · rw [if_pos h, if_pos ⟨hk, h⟩]
    congr 1
    rw [Nat.mul_add, Nat.mul_assoc, Nat.add_comm k 1]
    omega
  · rw [if_neg h, if_neg (fun e => h e.2)]
theorem told_zero (s : List UInt8) : (toldL s).Zero := ⟨fun m c _ _ h => if_neg (fun e => h e.2), fun c _ h => if_neg h⟩
theorem told_in64 (s : List UInt8) : (∀ m c, In64 ((toldL s).B m c)) ∧ ∀ c, In64 ((toldL s).N c) := by
  refine ⟨fun m c => ?_, fun c => ?_⟩
  · show In64 (if m < (toldL s).nm ∧ c < (toldL s).nc then amt s (2 + 8 * ((toldL s).nc * (m + 1) + c)) else 0)
    split
    · exact amt_in _ _
    · decide
  · rw [told_N]; exact rowT_in _ _ _ _
theorem PLv.congr {P : Nat → Prop} {w : World} {b gB cB nm nc : Nat} {B C : Nat → Nat → Int} {N : Nat → Int} (h : PLv P w b ⟨nm, nc, B, N⟩ gB cB) (e : ∀ m c, m < nm → c < 8 → B m c = C m c) : PLv P w b ⟨nm, nc, C, N⟩ gB cB :=
  ⟨h.obj, h.bal.congr e, h.nm, h.nc, h.own⟩
theorem bl_tail (s : ByteArray) (a : Nat) : bl (s.extract a s.size) = (bl s).drop a := by
  rw [bl_ext, List.take_of_length_le]
  rw [List.length_drop, bl_length]
  exact Nat.le_refl _
/-- what Read tells -/
def ReadP (s : ByteArray) (w : World) (e : Ending) (w' : World) : Prop :=
  (∀ l, readL (bl s) = (0, some l) → ∃ b, e = .returned (.tuple #[.pointer (some ⟨b, 0, none⟩), .int .i64 0]) ∧ PL (fun j => w.heap.size ≤ j) w' b l) ∧
  ((readL (bl s)).2 = none → e = .returned (.tuple #[.pointer none, .int .i64 (readL (bl s)).1])) ∧ Below w.heap.size w w'
theorem ReadP.form {s : ByteArray} {w w' : World} (h : formL (bl s) = false) (hb : Below w.heap.size w w') : ReadP s w (.returned (.tuple #[.pointer none, .int .i64 2])) w' := by
  have e : readL (bl s) = (2, none) := by unfold readL; rw [h]; rfl
  refine ⟨fun l hl => by rw [e] at hl; simp at hl, fun _ => by rw [e], hb⟩
/-- what New tells, its answer in two parts -/
theorem new_two (nm nc : Int) (w : World) : Calls Tryz.prog 22 #[.int .i64 nm, .int .i64 nc] w fun e w' => ∃ pv er, e = .returned (.tuple #[pv, er]) ∧
    Hid ((newOk nm nc = true → ∃ b, pv = .pointer (some ⟨b, 0, none⟩) ∧ er = .int .i64 0 ∧ PL (fun j => w.heap.size ≤ j) w' b (LM.new nm.toNat nc.toNat)) ∧ (newOk nm nc = false → pv = .pointer none ∧ er = .int .i64 1) ∧ Below w.heap.size w w') := by
  refine (new_any nm nc w).mono ?_
  rintro e w' ⟨h1, h2, h3⟩
  cases hok : newOk nm nc with
  | true =>
    obtain ⟨b, rfl, hL⟩ := h1 hok
    exact ⟨_, _, rfl, ⟨fun _ => ⟨b, rfl, rfl, hL⟩, fun e => by simp at e, h3⟩⟩
  | false =>
    have e := h2 hok
    subst e
    exact ⟨_, _, rfl, ⟨fun e => by simp at e, fun _ => ⟨rfl, rfl⟩, h3⟩⟩
/-- Read's way: k members' rows are told -/
structure RSt (w : World) (D : LM) (s : ByteArray) (b gB cB k : Nat) (S : ByteArray) (wr : World) : Prop where
  led : PLv (fun j => w.heap.size ≤ j) wr b ⟨D.nm, D.nc, fun m c => if m < k then D.B m c else 0, D.N⟩ gB cB
  rest : bl S = (bl s).drop (2 + 8 * D.nc * (1 + k))
  blw : Below w.heap.size w wr

set_option maxHeartbeats 4000000 in
set_option maxRecDepth 100000 in
theorem pread_any (s : ByteArray) (w : World) (hsz : s.size ≤ 100000) : Calls Tryz.prog 10 #[.string s] w (ReadP s w) := by
  have hbl := bl_length s
  by_cases h2 : (s.size : Int) < 2
  · have hf := ReadP.form (s := s) (w := w) (w' := w) (by unfold formL; simp; omega) (Below.refl _ _)
    replace hf := Lib.hid hf
    go_enter Tryz.func10, Tryz.ntmps10
    go_wp2_with fail
    go_ret2
    exact hf.out
  have h0s : 0 < s.size := by omega
  have h1s : 1 < s.size := by omega
  have h0z : (0 : Int) < (s.size : Int) := by omega
  have h1z : (1 : Int) < (s.size : Int) := by omega
  have em : (toldL (bl s)).nm = s[0].toNat := by
    show ((bl s).getD 0 0).toNat = _
    rw [List.getD_eq_getElem?_getD, List.getElem?_eq_getElem (by omega)]
    rfl
  have ec : (toldL (bl s)).nc = s[1].toNat := by
    show ((bl s).getD 1 0).toNat = _
    rw [List.getD_eq_getElem?_getD, List.getElem?_eq_getElem (by omega)]
    rfl
  have hN := fun w => new_two ((toldL (bl s)).nm : Int) ((toldL (bl s)).nc : Int) w
  simp only [Int.toNat_natCast] at hN
  have hTB := fun k => @told_B (bl s) k
  have hTN := told_N (bl s)
  have hTZ := told_zero (bl s)
  have hT64 := told_in64 (bl s)
  have hform : formL (bl s) = decide (2 ≤ (bl s).length ∧ 1 ≤ (toldL (bl s)).nm ∧ (toldL (bl s)).nm ≤ 16 ∧ 1 ≤ (toldL (bl s)).nc ∧ (toldL (bl s)).nc ≤ 8 ∧ (bl s).length = 2 + 8 * (toldL (bl s)).nc * (1 + (toldL (bl s)).nm)) := rfl
  have hread : readL (bl s) = if formL (bl s) = true then (if sumsL (toldL (bl s)) = true then (0, some (toldL (bl s))) else (8, none)) else (2, none) := rfl
  generalize toldL (bl s) = D at *
  have hb0 := s[0].toNat_lt
  have hb1 := s[1].toNat_lt
  have hw0 : IntKind.i64.wrap (s[0].toNat : Int) = (D.nm : Int) := by rw [em, IntKind.wrap_i64] <;> omega
  have hw1 : IntKind.i64.wrap (s[1].toNat : Int) = (D.nc : Int) := by rw [ec, IntKind.wrap_i64] <;> omega
  have hm255 : D.nm < 256 := by omega
  have hc255 : D.nc < 256 := by omega
  clear hb0 hb1 em ec
  replace hN := Lib.hid hN
  replace hread := Lib.hid hread
  replace hTB := Lib.hid hTB
  replace hTN := Lib.hid hTN
  replace hTZ := Lib.hid hTZ
  replace hT64 := Lib.hid hT64
  replace hform := Lib.hid hform
  go_enter Tryz.func10, Tryz.ntmps10
  go_upto_region 3 with (fail)
  go_cut [4, 5] (fun pv er wc => Hid ((newOk (D.nm : Int) (D.nc : Int) = true → ∃ b, pv = .pointer (some ⟨b, 0, none⟩) ∧ er = .int .i64 0 ∧ PL (fun j => w.drew.heap.size ≤ j) wc b (LM.new D.nm D.nc)) ∧ (newOk (D.nm : Int) (D.nc : Int) = false → pv = .pointer none ∧ er = .int .i64 1) ∧ Below w.drew.heap.size w.drew wc))
  case first =>
    go_region_held3 (fun _ => True) (exact trivial) (first | (go_at_call 22; (with_reducible refine (hN.out _).mono ?_); rintro e w1 ⟨pv, er, rfl, hy⟩))
    all_goals go_wp2_with fail
    all_goals go_meet
    all_goals (try case rel => exact hy)
  case rest =>
    obtain ⟨hy, hn, hB1⟩ := hcut.out
    have hB1' : Below w.heap.size w wc := (Below.refl _ w).drew.trans hB1
    cases hok : newOk (D.nm : Int) (D.nc : Int) with
    | false =>
      obtain ⟨rfl, rfl⟩ := hn hok
      have hf := ReadP.form (s := s) (w := w) (w' := wc) (by rw [hform.out]; refine decide_eq_false fun h => ?_; rw [newOk_iff.2 (by omega)] at hok; simp at hok) hB1'
      clear hy hn
      replace hB1 := Lib.hid hB1
      replace hB1' := Lib.hid hB1'
      replace hf := Lib.hid hf
      go_wp2_with fail
      go_ret2
      exact hf.out
    | true =>
      obtain ⟨b, rfl, rfl, gB, cB, hL⟩ := hy hok
      have hnb := newOk_iff.1 hok
      clear hy hn
      have cZ := psize_any wc hL
      have cT := fun w => textSize_any D.nm D.nc w (by omega) (by omega)
      dsimp only [LM.new] at cZ
      have hL0 : ∀ nq, PLv (fun j => w.heap.size ≤ j) (wc.drewN nq) b (LM.new D.nm D.nc) gB cB := fun nq => hL.kept fun _ _ _ => rfl
      have hBq : ∀ nq, Below w.heap.size w (wc.drewN nq) := fun nq => below_drewN hB1' nq
      have hst : 8 * D.nc * (1 + D.nm) = 8 * D.nc * D.nm + 8 * D.nc := by rw [Nat.add_comm 1, Nat.mul_succ]
      replace hB1 := Lib.hid hB1
      replace hB1' := Lib.hid hB1'
      replace hL := Lib.hid hL
      replace hok := Lib.hid hok
      replace cZ := Lib.hid cZ
      replace cT := Lib.hid cT
      replace hL0 := Lib.hid hL0
      replace hBq := Lib.hid hBq
      by_cases hq : s.size = 2 + 8 * D.nc * (1 + D.nm)
      · generalize hN2 : 2 + 8 * D.nc * (1 + D.nm) = N2 at *
        have hbq : ((s.size : Int) == (N2 : Int)) = true := by rw [beq_iff_eq]; omega
        have hq2 : s.size = 2 + 8 * D.nc * D.nm + 8 * D.nc := by omega
        have hfm : formL (bl s) = true := by rw [hform.out]; exact decide_eq_true (by omega)
        rw [hfm] at hread
        clear hst
        replace hN2 := Lib.hid hN2
        replace hq2 := Lib.hid hq2
        replace hq := Lib.hid hq
        go_wp2_with fail
        with_reducible refine cZ.out.mono ?_
        rintro e w2 ⟨rfl, nq, rfl⟩
        go_wp2_with fail
        with_reducible refine (cT.out _).mono ?_
        rintro e w3 ⟨rfl, rfl⟩
        have hL2 := hL0.out nq
        have hB2 := hBq.out nq
        generalize wc.drewN nq = v0 at *
        have c0 := hL2.c0
        dsimp only [LM.new] at c0
        have hS0t := bl_tail s 2
        have hS0s : (s.extract 2 s.size).size = s.size - 2 := ext_size _ _ _ (Nat.le_refl _)
        have cR := fun w => takeRow_any (s.extract 2 s.size) D.nc w (by omega) (by have := hq2.out; omega) (by omega)
        rw [rowT_drop hS0t, ← hTN.out] at cR
        have hS1t : bl ((s.extract 2 s.size).extract (8 * D.nc) (s.extract 2 s.size).size) = (bl s).drop (2 + 8 * D.nc * (1 + 0)) := by
          rw [bl_tail, hS0t, List.drop_drop, Nat.add_zero, Nat.mul_one]
        unfold r8 at cR
        replace cR := Lib.hid cR
        replace hL2 := Lib.hid hL2
        replace hB2 := Lib.hid hB2
        replace hS0t := Lib.hid hS0t
        replace hS1t := Lib.hid hS1t
        replace hS0s := Lib.hid hS0s
        go_upto_region 7 with (fail)
        go_wp2_with fail
        with_reducible refine (cR.out _).mono ?_
        rintro e w4 ⟨rfl, hB4⟩
        have hB4' : Below w.heap.size w w4 := hB2.out.trans (hB4.mono hB2.out.size)
        have hL4 := hL2.out.below hB4
        obtain ⟨n0, n1, n2, n3, n4, n5, n6, n7⟩ := hL4.ncells
        have zb := obj_free hL4.obj
        have hS0 : RSt w D s b gB cB 0 ((s.extract 2 s.size).extract (8 * D.nc) (s.extract 2 s.size).size) (st8 w4 b 1 D.N) :=
          ⟨(hL4.putN D.N).congr fun m c _ _ => by show (0 : Int) = if m < 0 then D.B m c else 0; rw [if_neg (by omega)], hS1t.out, below_st8 hB4' hL4.own.1 _ _⟩
        have c9 := hS0.led.c9
        generalize hv4 : st8 w4 b 1 D.N = v4 at *
        replace hv4 := Lib.hid hv4
        replace hS0 := Lib.hid hS0
        replace hL4 := Lib.hid hL4
        replace hB4 := Lib.hid hB4
        replace hB4' := Lib.hid hB4'
        go_upto_region 8 with (fail)
        change Code.wp _ _ _ _ (st8 w4 b 1 D.N)
        rw [hv4.out]
        go_upto_region 9 with (fail)
        clear n0 n1 n2 n3 n4 n5 n6 n7 c0 zb
        go_loopw [6, 52] (fun S i wr => ∃ (k : Nat) (Sb : ByteArray), k ≤ D.nm ∧ i = .int .i64 (k : Int) ∧ S = .string Sb ∧ Hid (RSt w D s b gB cB k Sb wr)) (fun _ i _ => D.nm - (intOf i).toNat)
        case atStart => exact ⟨0, _, by omega, rfl, rfl, by have h := hS0; rw [hS0s.out] at h; exact h⟩
        case round =>
          obtain ⟨k, Sb, hk, rfl, rfl, hS⟩ := hrel
          by_cases hkn : k < D.nm
          · have kz : (k : Int) < (D.nm : Int) := by omega
            have hT := hS.out
            have hsb := bl_length Sb
            rw [hT.rest, List.length_drop, hbl] at hsb
            have hmul : 8 * D.nc * (1 + (k + 1)) ≤ 8 * D.nc * (1 + D.nm) := Nat.mul_le_mul_left _ (by omega)
            have hnx : 8 * D.nc * (1 + (k + 1)) = 8 * D.nc * (1 + k) + 8 * D.nc := by rw [show 1 + (k + 1) = (1 + k) + 1 by omega, Nat.mul_succ]
            have cR := fun w => takeRow_any Sb D.nc w (by omega) (by have := hq.out; have := hN2.out; omega) (by have := hq.out; have := hN2.out; omega)
            rw [rowT_drop hT.rest, ← hTB.out k hkn] at cR
            have hSn : bl (Sb.extract (8 * D.nc) Sb.size) = (bl s).drop (2 + 8 * D.nc * (1 + (k + 1))) := by
              rw [bl_tail, hT.rest, List.drop_drop, hnx, Nat.add_assoc]
            generalize Sb.extract (8 * D.nc) Sb.size = Sn at *
            unfold r8 at cR
            have hmz : k < (⟨D.nm, D.nc, fun m c => if m < k then D.B m c else 0, D.N⟩ : LM).nm := hkn
            have cR5 : Calls Tryz.prog 28 #[.string Sb, .int .i64 (D.nc : Int)] wr.drew fun e w5 => e = .returned (.tuple #[.agg #[.int .i64 (D.B k 0), .int .i64 (D.B k 1), .int .i64 (D.B k 2), .int .i64 (D.B k 3), .int .i64 (D.B k 4), .int .i64 (D.B k 5), .int .i64 (D.B k 6), .int .i64 (D.B k 7)], .string Sn]) ∧ Below wr.heap.size wr w5 ∧
                (w5.cell? ⟨gB, k * 8, none⟩ = some (.int .i64 (if k < k then D.B k 0 else 0)) ∧ w5.cell? ⟨gB, k * 8 + 1, none⟩ = some (.int .i64 (if k < k then D.B k 1 else 0)) ∧ w5.cell? ⟨gB, k * 8 + 2, none⟩ = some (.int .i64 (if k < k then D.B k 2 else 0)) ∧ w5.cell? ⟨gB, k * 8 + 3, none⟩ = some (.int .i64 (if k < k then D.B k 3 else 0)) ∧
                  w5.cell? ⟨gB, k * 8 + 4, none⟩ = some (.int .i64 (if k < k then D.B k 4 else 0)) ∧ w5.cell? ⟨gB, k * 8 + 5, none⟩ = some (.int .i64 (if k < k then D.B k 5 else 0)) ∧ w5.cell? ⟨gB, k * 8 + 6, none⟩ = some (.int .i64 (if k < k then D.B k 6 else 0)) ∧ w5.cell? ⟨gB, k * 8 + 7, none⟩ = some (.int .i64 (if k < k then D.B k 7 else 0))) ∧
                (∀ i, w5.frozen? ⟨gB, i, none⟩ = false) ∧ w5.cell? ⟨b, 9, none⟩ = some (.slice (some ⟨gB, 0, none⟩) D.nm cB) ∧ w5.cell? ⟨b, 0, none⟩ = some (.int .i64 (D.nc : Nat)) ∧ RSt w D s b gB cB (k + 1) Sn (st8 w5 gB (k * 8) (D.B k)) := by
              refine (cR _).mono ?_
              rintro e w5 ⟨rfl, hB5⟩
              have hL5 := (hT.led.drew).below hB5
              refine ⟨rfl, (Below.refl _ wr).drew.trans hB5, hL5.bal.cells hmz, hL5.bal.free, hL5.c9, hL5.c0, (hL5.putB hmz (D.B k)).congr fun m c _ _ => ?_, hSn, below_st8 ((hT.blw.drew).trans (hB5.mono hT.blw.size)) hL5.own.2 _ _⟩
              unfold updR
              by_cases e : m = k
              · subst e; rw [if_pos rfl, if_pos (by omega)]
              · rw [if_neg e]
                dsimp only
                by_cases e2 : m < k
                · rw [if_pos e2, if_pos (by omega)]
                · rw [if_neg e2, if_neg (by omega)]
            replace cR5 := Lib.hid cR5
            have c0 := hT.led.c0
            have c9 := hT.led.c9
            dsimp only at c0 c9
            clear hsb hmul hnx
            replace cR := Lib.hid cR
            replace hT := Lib.hid hT
            replace hSn := Lib.hid hSn
            go_upto_block 1 with fail
            go_cut [6, 7, 52] from 53 to 70 (fun S i7 i52 w' => i52 = .int .i64 (k : Int) ∧ ∃ Sb', S = .string Sb' ∧ Hid (RSt w D s b gB cB (k + 1) Sb' w'))
            case first =>
              go_upto_region 11 with (fail)
              go_region_with (go_at_call 28; (with_reducible refine cR5.out.mono ?_); rintro e w5 ⟨rfl, hB5, ⟨b0, b1, b2, b3, b4, b5, b6, b7⟩, zg, d9, d0, hfin⟩; replace hB5 := Lib.hid hB5; replace hfin := Lib.hid hfin)
              all_goals go_wp2_with fail
              all_goals go_meet
              all_goals (try case rel => exact ⟨rfl, _, rfl, hfin⟩)
            case rest =>
              obtain ⟨rfl, Sb', rfl, hS'⟩ := hcut
              go_wp2_with fail
              go_roundw
              case rel => exact ⟨k + 1, _, by omega, by go_num, rfl, hS'⟩
              case measure => simp [intOf]; omega
          · obtain rfl : k = D.nm := by omega
            have kz : ¬ (D.nm : Int) < (D.nm : Int) := by omega
            have hLf : PLv (fun j => w.heap.size ≤ j) wr b D gB cB := hS.out.led.congr fun m c hm _ => by rw [if_pos hm]
            have hBf := hS.out.blw
            have cB := balanced_any wr hLf hT64.out.1
            rw [balB_eq (by omega) hT64.out.2 hTZ.out] at cB
            replace hLf := Lib.hid hLf
            cases hsm : sumsL D with
            | true =>
              rw [hsm] at cB hread
              replace hread := Lib.hid hread.out
              replace cB := Lib.hid cB
              replace hBf := Lib.hid hBf
              go_wp2_with fail
              with_reducible refine cB.out.mono ?_
              rintro e w6 ⟨rfl, hB6⟩
              have hfin : ReadP s w (.returned (.tuple #[.pointer (some ⟨b, 0, none⟩), .int .i64 0])) w6 := by
                refine ⟨fun l hl => ?_, fun hl => ?_, hBf.out.trans (hB6.mono hBf.out.size)⟩
                · rw [hread.out] at hl
                  simp at hl
                  subst hl
                  exact ⟨b, rfl, _, _, hLf.out.below hB6⟩
                · rw [hread.out] at hl
                  simp at hl
              replace hfin := Lib.hid hfin
              replace hB6 := Lib.hid hB6
              go_wp2_with fail
              go_ret2
              exact hfin.out
            | false =>
              rw [hsm] at cB hread
              replace cB := Lib.hid cB
              replace hBf := Lib.hid hBf
              go_wp2_with fail
              with_reducible refine cB.out.mono ?_
              rintro e w6 ⟨rfl, hB6⟩
              have hfin : ReadP s w (.returned (.tuple #[.pointer none, .int .i64 8])) w6 := by
                have e : readL (bl s) = (8, none) := by rw [hread.out]; simp
                refine ⟨fun l hl => ?_, fun hl => ?_, hBf.out.trans (hB6.mono hBf.out.size)⟩
                · rw [e] at hl
                  simp at hl
                · rw [e]
              replace hfin := Lib.hid hfin
              replace hB6 := Lib.hid hB6
              go_wp2_with fail
              go_ret2
              exact hfin.out
      · generalize hN2 : 2 + 8 * D.nc * (1 + D.nm) = N2 at *
        have hbq : ((s.size : Int) == (N2 : Int)) = false := by rw [beq_eq_false_iff_ne]; omega
        have hf : ∀ nq, ReadP s w (.returned (.tuple #[.pointer none, .int .i64 2])) (wc.drewN nq) := fun nq => ReadP.form (by rw [hform.out]; refine decide_eq_false fun h => ?_; omega) (hBq.out nq)
        replace hf := Lib.hid hf
        replace hN2 := Lib.hid hN2
        go_wp2_with fail
        with_reducible refine cZ.out.mono ?_
        rintro e w2 ⟨rfl, nq, rfl⟩
        go_wp2_with fail
        with_reducible refine (cT.out _).mono ?_
        rintro e w3 ⟨rfl, rfl⟩
        go_wp2_with fail
        go_ret2
        exact hf.out nq
end Go.Proofs.YtiehbbhjpcnbnaaGreat
