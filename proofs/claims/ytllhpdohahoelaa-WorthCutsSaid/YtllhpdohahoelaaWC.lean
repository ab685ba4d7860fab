/- The contracts of worth's both, has, accountOf, by. -/
import Derived.Test.YtllhpdohahoelaaWB
import Derived.Test.YtllhpdohahoelaaUC
namespace Go.Proofs.Ytllhpdohahoelaa
open Go.RowKit
set_option linter.unusedVariables false

/-- both is the first error, or both amounts -/
def bothV (n s : Int × Int) : Int × Int × Int := if n.2 = 0 then (if s.2 = 0 then (n.1, s.1, 0) else (0, 0, s.2)) else (0, 0, n.2)
set_option maxHeartbeats 2000000 in
set_option maxRecDepth 100000 in
theorem both_any (f : Nat → Int) (n s : Int × Int) (w : World) :
    Calls Try.prog 44 #[.agg (s12 f n s)] w fun e w' => e = .returned (.tuple #[.int .i64 (bothV n s).1, .int .i64 (bothV n s).2.1, .int .i64 (bothV n s).2.2]) ∧ Below w.heap.size w w' := by
  obtain ⟨n1, n2⟩ := n
  obtain ⟨s1, s2⟩ := s
  have hB0 : Below w.heap.size w (w.alloc (.cells (s12 f (n1, n2) (s1, s2)) 93)) := (Below.refl _ w).alloc (Nat.le_refl _) _
  have hbx := heap_alloc_new w (.cells (s12 f (n1, n2) (s1, s2)) 93)
  generalize hv : w.alloc (.cells (s12 f (n1, n2) (s1, s2)) 93) = v at *
  have d8 : v.cell? ⟨w.heap.size, 8, none⟩ = some (.int .i64 n1) := obj_cell hbx rfl
  have d9 : v.cell? ⟨w.heap.size, 9, none⟩ = some (.int .i64 n2) := obj_cell hbx rfl
  have hbl := obj_lt hbx
  have hT := fun w => told_any n1 n2 w
  have hT2 := fun w => told_any s1 s2 w
  unfold s12 at hv ⊢
  replace hv := Lib.hid hv
  replace hT := Lib.hid hT
  replace hT2 := Lib.hid hT2
  replace hbx := Lib.hid hbx
  replace hB0 := Lib.hid hB0
  obtain ⟨R, hR⟩ : ∃ R, bothV (n1, n2) (s1, s2) = R := ⟨_, rfl⟩
  rw [hR]
  replace hR := Lib.hid hR
  by_cases h1 : n2 = 0
  · subst h1
    go_enter Try.func44, Try.ntmps44
    go_upto_region 1 with (fail)
    rw [hv.out]
    go_upto_region 4 with (first | (go_at_call 40; (with_reducible refine (hT.out _).mono ?_); rintro e w1 ⟨rfl, hb1⟩))
    have hx1 := (hb1.block _ hbl).trans hbx.out
    have d10 : w1.cell? ⟨w.heap.size, 10, none⟩ = some (.int .i64 s1) := obj_cell hx1 rfl
    have d11 : w1.cell? ⟨w.heap.size, 11, none⟩ = some (.int .i64 s2) := obj_cell hx1 rfl
    replace hx1 := Lib.hid hx1
    replace hb1 := Lib.hid hb1
    by_cases h2 : s2 = 0
    · subst h2
      go_wp2_with (first | (go_at_call 40; (with_reducible refine (hT2.out _).mono ?_); rintro e w2 ⟨rfl, hb2⟩; replace hb2 := Lib.hid hb2))
      go_ret3
      exact ⟨by rw [← hR.out]; rfl, chain_trans (chain_trans hB0.out hb1.out) hb2.out⟩
    · have h3 : (s2 != 0) = true := by simpa using h2
      go_wp2_with (first | (go_at_call 40; (with_reducible refine (hT2.out _).mono ?_); rintro e w2 ⟨rfl, hb2⟩; replace hb2 := Lib.hid hb2))
      go_ret3
      exact ⟨by rw [← hR.out, show bothV (n1, 0) (s1, s2) = (0, 0, s2) from if_neg h2]; rfl, chain_trans (chain_trans hB0.out hb1.out) hb2.out⟩
  · have h3 : (n2 != 0) = true := by simpa using h1
    go_enter Try.func44, Try.ntmps44
    go_upto_region 1 with (fail)
    rw [hv.out]
    go_wp2_with (first | (go_at_call 40; (with_reducible refine (hT.out _).mono ?_); rintro e w1 ⟨rfl, hb1⟩; replace hb1 := Lib.hid hb1))
    go_ret3
    exact ⟨by rw [← hR.out, show bothV (n1, n2) (s1, s2) = (0, 0, n2) from if_neg h1]; rfl, chain_trans hB0.out hb1.out⟩
end Go.Proofs.Ytllhpdohahoelaa
namespace Go.Proofs.Ytllhpdohahoelaa
open Go.RowKit
set_option linter.unusedVariables false

/-- what every order keeps, and each operation's forerunners are listed -/
theorem wp_region_closed {P : Program} {id : Nat} {ops : Array Oper} {Q : Exit → Act → World → Prop} {a : Act} {w : World} (hm : P.follows .mixedOrders = true) (I : (Nat → Bool) → Act → World → Prop)
    (hd : ((List.range ops.size).all fun i => (deps .any ops i).all (· < i)) = true)
    (hbeg : I (fun _ => false) a w.drew)
    (hstep : ∀ L a w i, i < ops.size → L i = false → I L a w → (∀ j ∈ deps .any ops i, L j = true) → (∀ i, L i = true → ∀ j ∈ deps .any ops i, L j = true) → wpOp P ops Q i (fun a' w' => I (add L i) a' w') a w)
    (hend : ∀ L a w, I L a w → (∀ i, i < ops.size → L i = true) → Q .normal a w) : (Code.region id ops true).wp P Q a w := by
  refine wp_region_keeps hm (fun L a w => (∀ i, L i = true → ∀ j ∈ deps .any ops i, L j = true) ∧ I L a w) hd ⟨nofun, hbeg⟩ (fun L a w i h1 h2 h3 h4 => ?_) (fun L a w h => hend L a w h.2)
  refine wpOp_mono (fun a' w' h => ⟨fun k hk j hj => ?_, h⟩) (hstep L a w i h1 h2 h3.2 h4 h3.1)
  rcases add_iff.1 hk with hk | rfl
  · exact add_old (h3.1 k hk j hj)
  · exact add_old (h4 j hj)

/-- a box of a standing -/
def B12 (w : World) (p : Nat) (f : Nat → Int) (n s : Int × Int) : Prop := w.heap[p]? = some (.cells (s12 f n s) 93 (0, 0))
theorem B12.cells {w : World} {p : Nat} {f : Nat → Int} {n s : Int × Int} (h : B12 w p f n s) : w.cell? ⟨p, 0, none⟩ = some (.int .i64 (f 0)) ∧ w.cell? ⟨p, 1, none⟩ = some (.int .i64 (f 1)) ∧ w.cell? ⟨p, 2, none⟩ = some (.int .i64 (f 2)) ∧ w.cell? ⟨p, 3, none⟩ = some (.int .i64 (f 3)) ∧
    w.cell? ⟨p, 4, none⟩ = some (.int .i64 (f 4)) ∧ w.cell? ⟨p, 5, none⟩ = some (.int .i64 (f 5)) ∧ w.cell? ⟨p, 6, none⟩ = some (.int .i64 (f 6)) ∧ w.cell? ⟨p, 7, none⟩ = some (.int .i64 (f 7)) ∧
    w.cell? ⟨p, 8, none⟩ = some (.int .i64 n.1) ∧ w.cell? ⟨p, 9, none⟩ = some (.int .i64 n.2) ∧ w.cell? ⟨p, 10, none⟩ = some (.int .i64 s.1) ∧ w.cell? ⟨p, 11, none⟩ = some (.int .i64 s.2) :=
  ⟨obj_cell h rfl, obj_cell h rfl, obj_cell h rfl, obj_cell h rfl, obj_cell h rfl, obj_cell h rfl, obj_cell h rfl, obj_cell h rfl, obj_cell h rfl, obj_cell h rfl, obj_cell h rfl, obj_cell h rfl⟩
def BX8 (w : World) (p : Nat) (f : Nat → Int) : Prop := w.heap[p]? = some (.cells (r8 f) 89 (0, 0))
theorem B12.net {w : World} {p : Nat} {f : Nat → Int} {n s : Int × Int} (h : B12 w p f n s) (m : Int × Int) : B12 ((w.setCell ⟨p, 8, none⟩ (.int .i64 m.1)).setCell ⟨p, 9, none⟩ (.int .i64 m.2)) p f m s := obj_set (obj_set h 8 _) 9 _
theorem B12.short {w : World} {p : Nat} {f : Nat → Int} {n s : Int × Int} (h : B12 w p f n s) (m : Int × Int) : B12 ((w.setCell ⟨p, 10, none⟩ (.int .i64 m.1)).setCell ⟨p, 11, none⟩ (.int .i64 m.2)) p f n m := obj_set (obj_set h 10 _) 11 _

/-- accountOf's way -/
structure ASt (w : World) (l : LM) (m : Int) (k : Nat) (g : Nat → Int) (wr : World) : Prop where
  box : wr.heap[w.heap.size + 1]? = some (.cells (r8 g) 89 (0, 0))
  res : wr.heap[w.heap.size]? = some (.cells (r8 fun _ => 0) 89 (0, 0))
  got : ∀ c, c < k → g c = l.get m (c : Nat)
  blw : Below w.heap.size w wr

set_option maxHeartbeats 2000000 in
set_option maxRecDepth 100000 in
theorem account_any {P : Nat → Prop} {b gB cB : Nat} {l : LM} (m : Int) (w : World) (h : PLv P w b l gB cB) :
    Calls Try.prog 62 #[.pointer (some ⟨b, 0, none⟩), .int .i64 m] w fun e w' => e = .returned (.agg (r8 fun c => l.get m (c : Nat))) ∧ Below w.heap.size w w' := by
  have hS0 : ASt w l m 0 (fun _ => 0) ((w.alloc (.cells (r8 fun _ => 0) 89)).alloc (.cells (r8 fun _ => 0) 89)) :=
    ⟨heap_alloc2_new w _ _, heap_alloc2_old w _ _, fun c hc => by omega, ((Below.refl _ w).alloc (Nat.le_refl _) _).alloc (by simp) _⟩
  generalize hv : (w.alloc (.cells (r8 fun _ => 0) 89)).alloc (.cells (r8 fun _ => 0) 89) = v at *
  unfold r8 at hv
  replace hS0 := Lib.hid hS0
  replace h := Lib.hid h
  replace hv := Lib.hid hv
  obtain ⟨R, hR⟩ : ∃ R, r8 (fun c => l.get m (c : Nat)) = R := ⟨_, rfl⟩
  rw [hR]
  replace hR := Lib.hid hR
  go_enter Try.func62, Try.ntmps62
  go_upto_region 2 with (fail)
  rw [hv.out]
  go_upto_region 3 with (fail)
  go_loopw [7] (fun i wr => ∃ (k : Nat) (g : Nat → Int), k ≤ 8 ∧ i = .int .i64 (k : Int) ∧ Hid (ASt w l m k g wr)) (fun i _ => 8 - (intOf i).toNat)
  case atStart => exact ⟨0, _, by omega, rfl, hS0⟩
  case round =>
    obtain ⟨k, g, hk, rfl, hS⟩ := hrel
    have hT := hS.out
    by_cases hkl : k < 8
    · have hkz : (k : Int) < 8 := by omega
      have hG := Lib.hid (get_any m (k : Int) wr (h.out.below hT.blw))
      have hx0 : wr.cell? ⟨w.heap.size + 1, k, none⟩ = some (.int .i64 (g k)) := obj_cell hT.box (r8_get g hkl)
      have hz := obj_free hT.box k
      have hfin : ASt w l m (k + 1) (upd g k (l.get m (k : Nat))) (wr.setCell ⟨w.heap.size + 1, k, none⟩ (.int .i64 (l.get m (k : Nat)))) := by
        refine ⟨?_, (obj_other _ (by show w.heap.size ≠ w.heap.size + 1; omega)).trans hT.res, fun c hc => ?_, hT.blw.setCell (Nat.le_succ _) _⟩
        · rw [← r8_set g hkl]; exact obj_set hT.box k _
        · unfold upd
          by_cases e : c = k
          · subst e; rw [if_pos rfl]
          · rw [if_neg e]; exact hT.got c (by omega)
      replace hT := Lib.hid hT
      replace hfin := Lib.hid hfin
      go_wp2_with (first | (go_at_call 79; (with_reducible refine hG.out.mono ?_); rintro e w1 ⟨rfl, rfl⟩))
      go_roundw
      case rel => exact ⟨k + 1, _, by omega, by go_num, hfin⟩
      case measure => simp [intOf]; omega
    · obtain rfl : k = 8 := by omega
      have x0 : wr.cell? ⟨w.heap.size + 1, 0, none⟩ = some (.int .i64 (g 0)) := obj_cell hT.box rfl
      have x1 : wr.cell? ⟨w.heap.size + 1, 1, none⟩ = some (.int .i64 (g 1)) := obj_cell hT.box rfl
      have x2 : wr.cell? ⟨w.heap.size + 1, 2, none⟩ = some (.int .i64 (g 2)) := obj_cell hT.box rfl
      have x3 : wr.cell? ⟨w.heap.size + 1, 3, none⟩ = some (.int .i64 (g 3)) := obj_cell hT.box rfl
      have x4 : wr.cell? ⟨w.heap.size + 1, 4, none⟩ = some (.int .i64 (g 4)) := obj_cell hT.box rfl
      have x5 : wr.cell? ⟨w.heap.size + 1, 5, none⟩ = some (.int .i64 (g 5)) := obj_cell hT.box rfl
      have x6 : wr.cell? ⟨w.heap.size + 1, 6, none⟩ = some (.int .i64 (g 6)) := obj_cell hT.box rfl
      have x7 : wr.cell? ⟨w.heap.size + 1, 7, none⟩ = some (.int .i64 (g 7)) := obj_cell hT.box rfl
      have q0 : wr.cell? ⟨w.heap.size, 0, none⟩ = some (.int .i64 0) := obj_cell hT.res rfl
      have q1 : wr.cell? ⟨w.heap.size, 1, none⟩ = some (.int .i64 0) := obj_cell hT.res rfl
      have q2 : wr.cell? ⟨w.heap.size, 2, none⟩ = some (.int .i64 0) := obj_cell hT.res rfl
      have q3 : wr.cell? ⟨w.heap.size, 3, none⟩ = some (.int .i64 0) := obj_cell hT.res rfl
      have q4 : wr.cell? ⟨w.heap.size, 4, none⟩ = some (.int .i64 0) := obj_cell hT.res rfl
      have q5 : wr.cell? ⟨w.heap.size, 5, none⟩ = some (.int .i64 0) := obj_cell hT.res rfl
      have q6 : wr.cell? ⟨w.heap.size, 6, none⟩ = some (.int .i64 0) := obj_cell hT.res rfl
      have q7 : wr.cell? ⟨w.heap.size, 7, none⟩ = some (.int .i64 0) := obj_cell hT.res rfl
      have hz := obj_free hT.res
      have e8 : r8 g = R := by rw [← hR.out]; exact r8_ext fun c hc => hT.got c hc
      unfold r8 at e8
      replace e8 := Lib.hid e8
      replace hT := Lib.hid hT
      go_wp2_with fail
      refine bodyPost_ret (v := .agg R) ?_ rfl ⟨rfl, ?_⟩
      · rw [← e8.out]; simp [results, Try.results62, go_sem, q0, q1, q2, q3, q4, q5, q6, q7]
      · exact (((((((hT.out.blw.setCell (Nat.le_refl _) _).setCell (Nat.le_refl _) _).setCell (Nat.le_refl _) _).setCell (Nat.le_refl _) _).setCell (Nat.le_refl _) _).setCell (Nat.le_refl _) _).setCell (Nat.le_refl _) _).setCell (Nat.le_refl _) _
end Go.Proofs.Ytllhpdohahoelaa
