/- The contract of Schedule, whatever comes; flows in memory: pay. -/
import Derived.Test.YthocnlalahknjaaGreatQPL
namespace Go.Proofs.YthocnlalahknjaaGreat.Dd
open Go.RowKit Go.Maps
set_option linter.unusedVariables false

set_option maxHeartbeats 1000000 in
set_option maxRecDepth 100000 in
theorem schedule_any (v : Value) (rows : List (List Int)) (p : Option Addr) (n cap : Nat) (zs : List Int) (w : World) (h : NSeq w v rows) (hs : Seq64 w p n zs) (hlen : rows.length ≤ 4611686018427387904) (hw : ∀ r ∈ rows, r.length ≤ 4611686018427387904) :
    Calls Tryz.prog 13 #[v, .slice p n cap] w fun e w' => Below w.heap.size w w' ∧ SchOut rows zs w w' e := by
  have hmb := mayBeD_any p n cap zs w hs
  cases hD : mayD zs with
  | false =>
    rw [hD] at hmb
    go_enter Tryz.func13, Tryz.ntmps13
    go_wp2_with (go_at_call 32; (with_reducible refine hmb.mono ?_); rintro e w1 ⟨rfl, hw1⟩; replace hw1 := hw1.symm; subst hw1)
    go_ret2
    exact ⟨Below.refl _ _, .inl ⟨hD, rfl⟩⟩
  | true =>
    cases hM : manyN rows with
    | true =>
      have htm := tooMany_any v rows w h hlen hw
      rw [hD] at hmb
      rw [hM] at htm
      go_enter Tryz.func13, Tryz.ntmps13
      go_wp2_with (first | (go_at_call 32; (with_reducible refine hmb.mono ?_); rintro e w1 ⟨rfl, hw1⟩; replace hw1 := hw1.symm; subst hw1) | (go_at_call 33; (with_reducible refine htm.mono ?_); rintro e w1 ⟨rfl, q, rfl⟩))
      go_ret2
      exact ⟨below_drawn w q, .inr (.inl ⟨hD, hM, rfl⟩)⟩
    | false =>
      refine (schedule_main v rows p n cap zs w h hs hD hM).mono ?_
      rintro e w' ⟨hb, ⟨h1, rfl⟩ | ⟨h1, h2⟩⟩
      · exact ⟨hb, .inr (.inr (.inl ⟨hD, hM, h1, rfl⟩))⟩
      · exact ⟨hb, .inr (.inr (.inr ⟨hD, hM, h1, h2⟩))⟩

/-- the flows of a member and a currency stand in cell m * 8 + c, in P's blocks -/
structure FlowsV (P : Nat → Prop) (w : World) (f : Nat) (vs : Nat → Value) (F : Nat → List Int) : Prop where
  obj : w.heap[f]? = some (.cells ((List.range 128).map vs).toArray 67 (0, 0))
  row : ∀ i, i < 128 → w.ownsRow 0 2 1 (vs i) (F i).length ((F i).map (Value.int .i64))
  ne : ∀ i, i < 128 → (vs i).ownBlock ≠ some f
  ap : ∀ i j, i < 128 → j < 128 → i ≠ j → ∀ g, (vs i).ownBlock = some g → (vs j).ownBlock ≠ some g
  own : ∀ i, i < 128 → ∀ g, (vs i).ownBlock = some g → P g
  pf : P f
def FlowsIn (P : Nat → Prop) (w : World) (f : Nat) (F : Nat → List Int) : Prop := ∃ vs, FlowsV P w f vs F
theorem info2 : (Tryz.prog.info? 2).map (fun i => (i.zero, i.size, i.bytes)) = some (some (.int .i64 0), 1, 8) := by kernel_rfl
def updF {α : Type} (f : Nat → α) (i : Nat) (x : α) : Nat → α := fun j => if j = i then x else f j
theorem map_updF {α : Type} (vs : Nat → α) (i : Nat) (x : α) (n : Nat) (h : i < n) : ((List.range n).map vs).toArray.setIfInBounds i x = ((List.range n).map (updF vs i x)).toArray := by
  apply Array.ext
  · simp
  · intro j h1 h2
    simp only [List.setIfInBounds_toArray, List.getElem_toArray, List.getElem_map, List.getElem_range, updF]
    by_cases hj : j = i
    · subst hj; simp
    · rw [if_neg hj, List.getElem_set_ne (Ne.symm hj)]; simp
theorem FlowsV.lt {P : Nat → Prop} {w : World} {f : Nat} {vs : Nat → Value} {F : Nat → List Int} (h : FlowsV P w f vs F) : f < w.heap.size := obj_lt h.obj
theorem FlowsV.cell {P : Nat → Prop} {w : World} {f : Nat} {vs : Nat → Value} {F : Nat → List Int} (h : FlowsV P w f vs F) {i : Nat} (hi : i < 128) : w.cell? ⟨f, i, none⟩ = some (vs i) := obj_cell h.obj (by simp [hi])
theorem FlowsV.kept {P : Nat → Prop} {w w' : World} {f : Nat} {vs : Nat → Value} {F : Nat → List Int} (h : FlowsV P w f vs F) (hb : Below w.heap.size w w') : FlowsV P w' f vs F :=
  ⟨(hb.block f h.lt).trans h.obj, fun i hi => orow_kept (h.row i hi) fun g hg => hb.block g (World.ownsRow.lt (h.row i hi) g hg).2, h.ne, h.ap, h.own, h.pf⟩
theorem FlowsV.weak {P Q : Nat → Prop} {w : World} {f : Nat} {vs : Nat → Value} {F : Nat → List Int} (h : FlowsV P w f vs F) (hq : ∀ j, j < w.heap.size → P j → Q j) : FlowsV Q w f vs F :=
  ⟨h.obj, h.row, h.ne, h.ap, fun i hi g hg => hq g (World.ownsRow.lt (h.row i hi) g hg).2 (h.own i hi g hg), hq f h.lt h.pf⟩
/-- one more is appended -/
theorem FlowsV.push {P : Nat → Prop} {w : World} {f : Nat} {vs : Nat → Value} {F : Nat → List Int} (h : FlowsV P w f vs F) {i : Nat} (hi : i < 128) (x : Int) (hl : (F i).length ≤ 1000) (hf : ∀ j, w.heap.size ≤ j → P j) :
    ∃ v3 w3, (Builtin.append_ #[50, 50] 50 #[vs i, .slice (some ⟨w.heap.size, 0, none⟩) 1 1]).run Tryz.prog (w.alloc (.cells #[.int .i64 x] 2)) = .ok v3 w3 ∧
      w3.cell? ⟨f, i, none⟩ = some (vs i) ∧ w3.frozen? ⟨f, i, none⟩ = false ∧ (∃ p n c, v3 = .slice p n c) ∧ FlowsV P (w3.setCell ⟨f, i, none⟩ v3) f (updF vs i v3) (updF F i (F i ++ [x])) ∧ Kp P w (w3.setCell ⟨f, i, none⟩ v3) := by
  have hba : Below w.heap.size w (w.alloc (.cells #[.int .i64 x] 2)) := (Below.refl _ _).alloc (Nat.le_refl _) _
  have h1 := h.kept hba
  obtain ⟨v3, w3, hr, ho, hg, hv⟩ := app1_run 50 2 1 8 _ Tryz.underlying50 info2 (by rfl) (by omega) (by omega) (w.alloc (.cells #[.int .i64 x] 2)) (vs i) (F i).length ((F i).map (Value.int .i64)) (h1.row i hi) ⟨w.heap.size, 0, none⟩ [.int .i64 x] rfl
    (fun j u hu => by
      match j with
      | 0 => injection hu with hu; rw [← hu]; exact obj_cell (heap_alloc_new w _) rfl
      | j + 1 => simp at hu) (fun u hu => by obtain rfl := List.mem_singleton.1 hu; rfl) (by omega)
  have hsz : (w.alloc (.cells #[.int .i64 x] 2)).heap.size = w.heap.size + 1 := by simp
  have hlt1 := h1.lt
  have hobj3 : w3.heap[f]? = some (.cells ((List.range 128).map vs).toArray 67 (0, 0)) := (hg.block f hlt1 (fun e => h.ne i hi e.symm)).trans h1.obj
  have hn3 : v3.ownBlock ≠ some f := fun e => by
    rcases hv f e with h4 | h4
    · exact h.ne i hi h4
    · omega
  have hap3 : ∀ j, j < 128 → j ≠ i → ∀ g, v3.ownBlock = some g → (vs j).ownBlock ≠ some g := fun j hj hji g hg1 hg2 => by
    rcases hv g hg1 with h4 | h4
    · exact h.ap i j hi hj (Ne.symm hji) g h4 hg2
    · have := (World.ownsRow.lt (h.row j hj) g hg2).2; omega
  obtain ⟨p, cp, hv3, -, -, -⟩ := orow_shape ho
  refine ⟨v3, w3, hr, obj_cell hobj3 (by simp [hi]), obj_free hobj3 i, ⟨p, _, cp, hv3⟩, ⟨?_, fun j hj => ?_, fun j hj => ?_, fun j k hj hk hjk g hg1 => ?_, fun j hj g hg1 => ?_, ?_⟩, ?_⟩
  · rw [← map_updF vs i v3 128 hi]; exact obj_set hobj3 i v3
  · unfold updF
    by_cases hji : j = i
    · subst hji
      rw [if_pos rfl, if_pos rfl, List.length_append, List.map_append]
      exact orow_kept ho fun g hg1 => obj_other _ (fun e => hn3 (by rw [hg1, e]))
    · rw [if_neg hji, if_neg hji]
      refine orow_kept (orow_kept (h1.row j hj) (w' := w3) fun g hg1 => hg.block g (World.ownsRow.lt (h1.row j hj) g hg1).2 (fun e => h.ap j i hj hi hji g hg1 e.symm)) fun g hg1 => obj_other _ (fun e => h.ne j hj (by rw [hg1, e]))
  · unfold updF; split
    · exact hn3
    · exact h.ne j hj
  · unfold updF at hg1 ⊢
    by_cases hji : j = i
    · subst hji
      rw [if_pos rfl] at hg1
      rw [if_neg (Ne.symm hjk)]
      exact hap3 k hk (Ne.symm hjk) g hg1
    · rw [if_neg hji] at hg1
      by_cases hki : k = i
      · subst hki
        rw [if_pos rfl]
        exact fun e => hap3 j hj hji g e hg1
      · rw [if_neg hki]
        exact h.ap j k hj hk hjk g hg1
  · unfold updF at hg1
    split at hg1
    · rcases hv g hg1 with h4 | h4
      · exact h.own i hi g h4
      · exact hf g (by omega)
    · exact h.own j hj g hg1
  · exact h.pf
  · exact (((Kp.refl _ w).alloc _).grown hg fun g hg1 => .inl (h.own i hi g hg1)).setCell (.inl h.pf) v3
theorem FlowsV.drew {P : Nat → Prop} {w : World} {f : Nat} {vs : Nat → Value} {F : Nat → List Int} (h : FlowsV P w f vs F) : FlowsV P w.drew f vs F := h.kept (Below.refl _ _).drew

set_option maxHeartbeats 4000000 in
set_option maxRecDepth 100000 in
theorem pay_any (P : Nat → Prop) (f m1 m2 c : Nat) (a : Int) (F : Nat → List Int) (w : World) (h : FlowsIn P w f F) (hm1 : m1 < 16) (hm2 : m2 < 16) (hc : c < 8) (ha : 0 ≤ a) (ha2 : a ≤ 9223372036854775807)
    (hl : ∀ i, (F i).length ≤ 500) (hf' : ∀ j, w.heap.size ≤ j → P j) :
    Calls Tryz.prog 27 #[.pointer (some ⟨f, 0, none⟩), .int .i64 (m1 : Int), .int .i64 (m2 : Int), .int .i64 (c : Int), .int .i64 a] w fun e w' => e = .returned (.tuple #[]) ∧
      FlowsIn P w' f (updF (updF F (m1 * 8 + c) (F (m1 * 8 + c) ++ [-a])) (m2 * 8 + c) (updF F (m1 * 8 + c) (F (m1 * 8 + c) ++ [-a]) (m2 * 8 + c) ++ [a])) ∧ Kp P w w' := by
  obtain ⟨vs, hf⟩ := h
  have hi1 : m1 * 8 + c < 128 := by omega
  have hi2 : m2 * 8 + c < 128 := by omega
  have c1' : w.cell? ⟨f, m1 * 8 + c, none⟩ = some (vs (m1 * 8 + c)) := hf.cell hi1
  have c1 : w.drew.cell? ⟨f, m1 * 8 + c, none⟩ = some (vs (m1 * 8 + c)) := hf.drew.cell hi1
  have hfl := hf.lt
  have c1a : ∀ o, (w.drew.alloc o).cell? ⟨f, m1 * 8 + c, none⟩ = some (vs (m1 * 8 + c)) := fun o => by rw [World.cell?_alloc_lt _ _ _ (by exact hfl)]; exact c1
  obtain ⟨v3, w3, hr3, c3, z3, ⟨p3, n3, k3, rfl⟩, hF3, hb3⟩ := hf.drew.push hi1 (-a) (by have := hl (m1 * 8 + c); omega) hf'
  obtain ⟨F1, hF1⟩ : ∃ F1, F1 = updF F (m1 * 8 + c) (F (m1 * 8 + c) ++ [-a]) := ⟨_, rfl⟩
  rw [← hF1] at hF3 ⊢
  have hl1 : ∀ i, (F1 i).length ≤ 501 := fun i => by
    rw [hF1]; unfold updF; split
    · rw [List.length_append, List.length_singleton]; have := hl (m1 * 8 + c); omega
    · have := hl i; omega
  obtain ⟨w4, hw4⟩ : ∃ w4, w4 = w3.setCell ⟨f, m1 * 8 + c, none⟩ (.slice p3 n3 k3) := ⟨_, rfl⟩
  rw [← hw4] at hF3 hb3
  obtain ⟨vs1, hvs1⟩ : ∃ vs1, vs1 = updF vs (m1 * 8 + c) (.slice p3 n3 k3) := ⟨_, rfl⟩
  rw [← hvs1] at hF3
  have c4' : w4.cell? ⟨f, m2 * 8 + c, none⟩ = some (vs1 (m2 * 8 + c)) := hF3.cell hi2
  have c4 : w4.drew.cell? ⟨f, m2 * 8 + c, none⟩ = some (vs1 (m2 * 8 + c)) := hF3.drew.cell hi2
  have hfl4 := hF3.lt
  have c4a : ∀ o, (w4.drew.alloc o).cell? ⟨f, m2 * 8 + c, none⟩ = some (vs1 (m2 * 8 + c)) := fun o => by rw [World.cell?_alloc_lt _ _ _ (by exact hfl4)]; exact c4
  obtain ⟨v5, w5, hr5, c5, z5, ⟨p5, n5, k5, rfl⟩, hF5, hb5⟩ := hF3.drew.push hi2 a (by have := hl1 (m2 * 8 + c); omega) (fun j hj => hf' j (Nat.le_trans hb3.size hj))
  have z1 : (m1 : Int) < 16 := by omega
  have z2 : (m2 : Int) < 16 := by omega
  have zc : (c : Int) < 8 := by omega
  have hwr : IntKind.i64.wrap (-a) = -a := by rw [IntKind.wrap_i64] <;> omega
  have hfin : FlowsIn P (w5.setCell ⟨f, m2 * 8 + c, none⟩ (.slice p5 n5 k5)) f (updF F1 (m2 * 8 + c) (F1 (m2 * 8 + c) ++ [a])) ∧ Kp P w (w5.setCell ⟨f, m2 * 8 + c, none⟩ (.slice p5 n5 k5)) := ⟨⟨_, hF5⟩, by
    have e1 : Kp P w w4 := ⟨hb3.os, hb3.tape, hb3.output, hb3.size, hb3.block⟩
    exact e1.trans ⟨hb5.os, hb5.tape, hb5.output, hb5.size, hb5.block⟩⟩
  generalize vs (m1 * 8 + c) = x1 at *
  generalize vs1 (m2 * 8 + c) = x2 at *
  replace hfin := Lib.hid hfin
  replace hr3 := Lib.hid hr3
  replace hr5 := Lib.hid hr5
  replace hw4 := Lib.hid hw4
  clear hF5 hb5 hF3 hb3 hf hl1 hl hvs1 hF1
  go_enter Tryz.func27, Tryz.ntmps27
  go_wp2_with fail
  go_region_law (first | (refine step_app rfl _ _ _ _ rfl _ _ _ _ rfl rfl hr3.out ?_))
  all_goals rw [← hw4.out]
  all_goals go_wp2_with fail
  all_goals (go_region_law (first | (refine step_app rfl _ _ _ _ rfl _ _ _ _ rfl rfl hr5.out ?_)))
  all_goals
    go_wp2_with fail
    go_end0
    exact ⟨rfl, hfin.out⟩
end Go.Proofs.YthocnlalahknjaaGreat.Dd
