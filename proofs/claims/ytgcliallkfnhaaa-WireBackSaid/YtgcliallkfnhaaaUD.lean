/- The contract of wire's fields. -/
import Derived.Test.YtgcliallkfnhaaaUC
namespace Go.Proofs.Ytgcliallkfnhaaa
open Go.RowKit
set_option linter.unusedVariables false

/-- a cell that holds a field -/
def FC (w : World) (c B i : Nat) (v : Value) : Prop := ∃ g a b, v = .pointer (some ⟨g, 0, none⟩) ∧ B ≤ g ∧ w.heap[g]? = some (.cells (fArr i a b) 67 (0, 0)) ∧ Fld w c i a b ∧ B ≤ a ∧ B ≤ b
theorem FC.kept {w w' : World} {c B i : Nat} {v : Value} (h : FC w c B i v) (hb : Below w.heap.size w w') : FC w' c B i v := by
  obtain ⟨g, a, b, h1, h2, h3, h4, h5⟩ := h
  exact ⟨g, a, b, h1, h2, (hb.block g (obj_lt h3)).trans h3, h4.below hb, h5⟩
theorem FC.weak {w : World} {c B C i : Nat} {v : Value} (h : FC w c B i v) (hC : C ≤ B) : FC w c C i v := by
  obtain ⟨g, a, b, h1, h2, h3, h4, h5, h6⟩ := h
  exact ⟨g, a, b, h1, by omega, h3, h4, by omega, by omega⟩

/-- a kind's numbers, by their places -/
def flds (k : Int) : List Nat := (List.range 7).filter (hasN k)
def sel (a0 a1 a2 a3 a4 a5 a6 : Nat) : Nat → Nat
  | 0 => a0 | 1 => a1 | 2 => a2 | 3 => a3 | 4 => a4 | 5 => a5 | _ => a6
/-- fields, one behind the other -/
def flat (A D : Nat → Nat) (l : List Nat) : Array Value := (l.flatMap fun i => (fArr i (A i) (D i)).toList).toArray
/-- a kind's fields in memory -/
def FRow (w : World) (c B : Nat) (k : Int) (v : Value) : Prop := ∃ A D : Nat → Nat, (∀ i, i < 7 → Fld w c i (A i) (D i) ∧ B ≤ A i ∧ B ≤ D i) ∧
  ((flds k = [] ∧ v = .slice none 0 0) ∨ (flds k ≠ [] ∧ ∃ g, v = .slice (some ⟨g, 0, none⟩) (flds k).length (flds k).length ∧ B ≤ g ∧ w.heap[g]? = some (.cells (flat A D (flds k)) 67 (0, 0))))

set_option maxHeartbeats 8000000 in
set_option maxRecDepth 100000 in
theorem fields_any (c : Nat) (k : Int) (X : World) (hc : X.cell? ⟨c, 0, none⟩ = some (.int .i64 k)) :
    Calls Try.prog 25 #[.pointer (some ⟨c, 0, none⟩)] X fun e w' => ∃ v, e = .returned v ∧ FRow w' c X.heap.size k v ∧ Below X.heap.size X w' := by
  go_enter Try.func25, Try.ntmps25
  go_upto_region 1 with (fail)
  go_cut [3, 4, 5, 10, 11, 12, 13, 14, 15, 16, 17, 18, 19, 20, 21] (fun v3 v4 v5 v10 v11 v12 v13 v14 v15 v16 v17 v18 v19 v20 v21 wc => Hid (Below X.heap.size X wc ∧ FC wc c X.heap.size 0 v3 ∧ FC wc c X.heap.size 1 v4 ∧ FC wc c X.heap.size 2 v5))
  case first =>
    rename_i J1 K1 hJ1 hK1
    refine wp_region_keeps (by kernel_rfl) (fun L a w => ∃ v3 v4 v5 v10 v11 v12 v13 v14 v15 v16 v17 v18 v19 v20 v21 : Value, a = ({ tmps := (.pointer (some ⟨c, 0, none⟩) :: undef :: .slice none 0 0 :: v3 :: v4 :: v5 :: undef :: undef :: undef :: undef :: v10 :: v11 :: v12 :: v13 :: v14 :: v15 :: v16 :: v17 :: v18 :: v19 :: v20 :: v21 :: undef :: undef :: undef :: undef :: undef :: undef :: undef :: undef :: undef :: undef :: undef :: undef :: undef :: undef :: undef :: undef :: undef :: undef :: undef :: undef :: undef :: undef :: undef :: undef :: undef :: undef :: undef :: undef :: undef :: undef :: undef :: undef :: undef :: undef :: undef :: undef :: undef :: undef :: undef :: undef :: undef :: undef :: undef :: undef :: undef :: undef :: undef :: undef :: undef :: undef :: undef :: undef :: undef :: undef :: undef :: undef :: undef :: undef :: undef :: undef :: undef :: []).toArray, defers := [] } : Act) ∧ Below X.heap.size X w ∧ Tri L c 0 X.heap.size 0 12 15 v10 v11 v12 v13 v3 w ∧ Tri L c 1 X.heap.size 4 13 16 v14 v15 v16 v17 v4 w ∧ Tri L c 2 X.heap.size 8 14 17 v18 v19 v20 v21 v5 w ∧ (L 12 = true → L 13 = true → v3 ≠ v4) ∧ (L 12 = true → L 14 = true → v3 ≠ v5) ∧ (L 13 = true → L 14 = true → v4 ≠ v5)) (by kernel_rfl) ?_ ?_ ?_
    · exact ⟨_, _, _, _, _, _, _, _, _, _, _, _, _, _, _, rfl, (Below.refl _ _).drew, Tri.zero, Tri.zero, Tri.zero, nofun, nofun, nofun⟩
    · intro L a w i hi hni hI hdep
      obtain ⟨v3, v4, v5, v10, v11, v12, v13, v14, v15, v16, v17, v18, v19, v20, v21, rfl, hB, T0, T1, T2, D01, D02, D12⟩ := hI
      have hcase : i = 0 ∨ i = 1 ∨ i = 2 ∨ i = 3 ∨ i = 4 ∨ i = 5 ∨ i = 6 ∨ i = 7 ∨ i = 8 ∨ i = 9 ∨ i = 10 ∨ i = 11 ∨ i = 12 ∨ i = 13 ∨ i = 14 ∨ i = 15 ∨ i = 16 ∨ i = 17 := by
        have hi2 : i < 18 := hi
        omega
      rcases hcase with rfl | rfl | rfl | rfl | rfl | rfl | rfl | rfl | rfl | rfl | rfl | rfl | rfl | rfl | rfl | rfl | rfl | rfl
      · -- 0 mv
        refine wpOp_step rfl fun K hK => ?_
        go_simp
        exact hK _ _ ⟨_, _, _, _, _, _, _, _, _, _, _, _, _, _, _, rfl, hB, T0.at_mv (by decide), T1.other 0 (fun _ _ _ => rfl) (by decide), T2.other 0 (fun _ _ _ => rfl) (by decide), fun h1 h2 => D01 (add_ne h1 (by decide)) (add_ne h2 (by decide)), fun h1 h2 => D02 (add_ne h1 (by decide)) (add_ne h2 (by decide)), fun h1 h2 => D12 (add_ne h1 (by decide)) (add_ne h2 (by decide))⟩
      · -- 1 nc
        have e1 := T0.hmv (hdep 0 (by decide +kernel))
        subst e1
        refine wpOp_step rfl fun K hK => ?_
        go_simp
        exact hK _ _ ⟨_, _, _, _, _, _, _, _, _, _, _, _, _, _, _, rfl, hB, T0.at_nc (by decide), T1.other 1 (fun _ _ _ => rfl) (by decide), T2.other 1 (fun _ _ _ => rfl) (by decide), fun h1 h2 => D01 (add_ne h1 (by decide)) (add_ne h2 (by decide)), fun h1 h2 => D02 (add_ne h1 (by decide)) (add_ne h2 (by decide)), fun h1 h2 => D12 (add_ne h1 (by decide)) (add_ne h2 (by decide))⟩
      · -- 2 fa
        have e1 := T0.hnc (hdep 1 (by decide +kernel))
        subst e1
        refine wpOp_step rfl fun K hK => ?_
        go_simp
        exact hK _ _ ⟨_, _, _, _, _, _, _, _, _, _, _, _, _, _, _, rfl, hB, T0.at_fa (by decide), T1.other 2 (fun _ _ _ => rfl) (by decide), T2.other 2 (fun _ _ _ => rfl) (by decide), fun h1 h2 => D01 (add_ne h1 (by decide)) (add_ne h2 (by decide)), fun h1 h2 => D02 (add_ne h1 (by decide)) (add_ne h2 (by decide)), fun h1 h2 => D12 (add_ne h1 (by decide)) (add_ne h2 (by decide))⟩
      · -- 3 cl
        have e1 := T0.hfa (hdep 2 (by decide +kernel))
        subst e1
        have hF := field_any c 0 w (by decide)
        refine wpOp_step rfl fun K hK => ?_
        go_simp
        go_at_call 36
        refine hF.mono ?_
        rintro e w1 ⟨a1, b1, rfl, hf1, ha1, hb2, hb1⟩
        go_simp
        exact hK _ _ ⟨_, _, _, _, _, _, _, _, _, _, _, _, _, _, _, rfl, hB.trans (hb1.mono hB.size), T0.at_cl (by decide) hni hf1 (Nat.le_trans hB.size ha1) (Nat.le_trans hB.size hb2) hb1, T1.other 3 (fun j hj _ => hb1.block j hj) (by decide), T2.other 3 (fun j hj _ => hb1.block j hj) (by decide), fun h1 h2 => D01 (add_ne h1 (by decide)) (add_ne h2 (by decide)), fun h1 h2 => D02 (add_ne h1 (by decide)) (add_ne h2 (by decide)), fun h1 h2 => D12 (add_ne h1 (by decide)) (add_ne h2 (by decide))⟩
      · -- 4 mv
        refine wpOp_step rfl fun K hK => ?_
        go_simp
        exact hK _ _ ⟨_, _, _, _, _, _, _, _, _, _, _, _, _, _, _, rfl, hB, T0.other 4 (fun _ _ _ => rfl) (by decide), T1.at_mv (by decide), T2.other 4 (fun _ _ _ => rfl) (by decide), fun h1 h2 => D01 (add_ne h1 (by decide)) (add_ne h2 (by decide)), fun h1 h2 => D02 (add_ne h1 (by decide)) (add_ne h2 (by decide)), fun h1 h2 => D12 (add_ne h1 (by decide)) (add_ne h2 (by decide))⟩
      · -- 5 nc
        have e1 := T1.hmv (hdep 4 (by decide +kernel))
        subst e1
        refine wpOp_step rfl fun K hK => ?_
        go_simp
        exact hK _ _ ⟨_, _, _, _, _, _, _, _, _, _, _, _, _, _, _, rfl, hB, T0.other 5 (fun _ _ _ => rfl) (by decide), T1.at_nc (by decide), T2.other 5 (fun _ _ _ => rfl) (by decide), fun h1 h2 => D01 (add_ne h1 (by decide)) (add_ne h2 (by decide)), fun h1 h2 => D02 (add_ne h1 (by decide)) (add_ne h2 (by decide)), fun h1 h2 => D12 (add_ne h1 (by decide)) (add_ne h2 (by decide))⟩
      · -- 6 fa
        have e1 := T1.hnc (hdep 5 (by decide +kernel))
        subst e1
        refine wpOp_step rfl fun K hK => ?_
        go_simp
        exact hK _ _ ⟨_, _, _, _, _, _, _, _, _, _, _, _, _, _, _, rfl, hB, T0.other 6 (fun _ _ _ => rfl) (by decide), T1.at_fa (by decide), T2.other 6 (fun _ _ _ => rfl) (by decide), fun h1 h2 => D01 (add_ne h1 (by decide)) (add_ne h2 (by decide)), fun h1 h2 => D02 (add_ne h1 (by decide)) (add_ne h2 (by decide)), fun h1 h2 => D12 (add_ne h1 (by decide)) (add_ne h2 (by decide))⟩
      · -- 7 cl
        have e1 := T1.hfa (hdep 6 (by decide +kernel))
        subst e1
        have hF := field_any c 1 w (by decide)
        refine wpOp_step rfl fun K hK => ?_
        go_simp
        go_at_call 36
        refine hF.mono ?_
        rintro e w1 ⟨a1, b1, rfl, hf1, ha1, hb2, hb1⟩
        go_simp
        exact hK _ _ ⟨_, _, _, _, _, _, _, _, _, _, _, _, _, _, _, rfl, hB.trans (hb1.mono hB.size), T0.other 7 (fun j hj _ => hb1.block j hj) (by decide), T1.at_cl (by decide) hni hf1 (Nat.le_trans hB.size ha1) (Nat.le_trans hB.size hb2) hb1, T2.other 7 (fun j hj _ => hb1.block j hj) (by decide), fun h1 h2 => D01 (add_ne h1 (by decide)) (add_ne h2 (by decide)), fun h1 h2 => D02 (add_ne h1 (by decide)) (add_ne h2 (by decide)), fun h1 h2 => D12 (add_ne h1 (by decide)) (add_ne h2 (by decide))⟩
      · -- 8 mv
        refine wpOp_step rfl fun K hK => ?_
        go_simp
        exact hK _ _ ⟨_, _, _, _, _, _, _, _, _, _, _, _, _, _, _, rfl, hB, T0.other 8 (fun _ _ _ => rfl) (by decide), T1.other 8 (fun _ _ _ => rfl) (by decide), T2.at_mv (by decide), fun h1 h2 => D01 (add_ne h1 (by decide)) (add_ne h2 (by decide)), fun h1 h2 => D02 (add_ne h1 (by decide)) (add_ne h2 (by decide)), fun h1 h2 => D12 (add_ne h1 (by decide)) (add_ne h2 (by decide))⟩
      · -- 9 nc
        have e1 := T2.hmv (hdep 8 (by decide +kernel))
        subst e1
        refine wpOp_step rfl fun K hK => ?_
        go_simp
        exact hK _ _ ⟨_, _, _, _, _, _, _, _, _, _, _, _, _, _, _, rfl, hB, T0.other 9 (fun _ _ _ => rfl) (by decide), T1.other 9 (fun _ _ _ => rfl) (by decide), T2.at_nc (by decide), fun h1 h2 => D01 (add_ne h1 (by decide)) (add_ne h2 (by decide)), fun h1 h2 => D02 (add_ne h1 (by decide)) (add_ne h2 (by decide)), fun h1 h2 => D12 (add_ne h1 (by decide)) (add_ne h2 (by decide))⟩
      · -- 10 fa
        have e1 := T2.hnc (hdep 9 (by decide +kernel))
        subst e1
        refine wpOp_step rfl fun K hK => ?_
        go_simp
        exact hK _ _ ⟨_, _, _, _, _, _, _, _, _, _, _, _, _, _, _, rfl, hB, T0.other 10 (fun _ _ _ => rfl) (by decide), T1.other 10 (fun _ _ _ => rfl) (by decide), T2.at_fa (by decide), fun h1 h2 => D01 (add_ne h1 (by decide)) (add_ne h2 (by decide)), fun h1 h2 => D02 (add_ne h1 (by decide)) (add_ne h2 (by decide)), fun h1 h2 => D12 (add_ne h1 (by decide)) (add_ne h2 (by decide))⟩
      · -- 11 cl
        have e1 := T2.hfa (hdep 10 (by decide +kernel))
        subst e1
        have hF := field_any c 2 w (by decide)
        refine wpOp_step rfl fun K hK => ?_
        go_simp
        go_at_call 36
        refine hF.mono ?_
        rintro e w1 ⟨a1, b1, rfl, hf1, ha1, hb2, hb1⟩
        go_simp
        exact hK _ _ ⟨_, _, _, _, _, _, _, _, _, _, _, _, _, _, _, rfl, hB.trans (hb1.mono hB.size), T0.other 11 (fun j hj _ => hb1.block j hj) (by decide), T1.other 11 (fun j hj _ => hb1.block j hj) (by decide), T2.at_cl (by decide) hni hf1 (Nat.le_trans hB.size ha1) (Nat.le_trans hB.size hb2) hb1, fun h1 h2 => D01 (add_ne h1 (by decide)) (add_ne h2 (by decide)), fun h1 h2 => D02 (add_ne h1 (by decide)) (add_ne h2 (by decide)), fun h1 h2 => D12 (add_ne h1 (by decide)) (add_ne h2 (by decide))⟩
      · -- 12 al
        refine wpOp_step rfl fun K hK => ?_
        go_simp
        exact hK _ _ ⟨_, _, _, _, _, _, _, _, _, _, _, _, _, _, _, rfl, hB.alloc hB.size _, T0.at_al (by decide) hni _ rfl hB.size, T1.other 12 (fun j hj _ => Below.heap_alloc _ _ _ hj) (by decide), T2.other 12 (fun j hj _ => Below.heap_alloc _ _ _ hj) (by decide), fun h1 h2 => (fun e => by have e2 := e; obtain ⟨g, cur, e3, _, e4, _⟩ := T1.hal (add_ne h2 (by decide)); rw [e3] at e2; injection e2 with e2; injection e2 with e2; injection e2 with e2; have := obj_lt e4; omega), fun h1 h2 => (fun e => by have e2 := e; obtain ⟨g, cur, e3, _, e4, _⟩ := T2.hal (add_ne h2 (by decide)); rw [e3] at e2; injection e2 with e2; injection e2 with e2; injection e2 with e2; have := obj_lt e4; omega), fun h1 h2 => D12 (add_ne h1 (by decide)) (add_ne h2 (by decide))⟩
      · -- 13 al
        refine wpOp_step rfl fun K hK => ?_
        go_simp
        exact hK _ _ ⟨_, _, _, _, _, _, _, _, _, _, _, _, _, _, _, rfl, hB.alloc hB.size _, T0.other 13 (fun j hj _ => Below.heap_alloc _ _ _ hj) (by decide), T1.at_al (by decide) hni _ rfl hB.size, T2.other 13 (fun j hj _ => Below.heap_alloc _ _ _ hj) (by decide), fun h1 h2 => (fun e => by have e2 := e; obtain ⟨g, cur, e3, _, e4, _⟩ := T0.hal (add_ne h1 (by decide)); rw [e3] at e2; injection e2 with e2; injection e2 with e2; injection e2 with e2; have := obj_lt e4; omega), fun h1 h2 => D02 (add_ne h1 (by decide)) (add_ne h2 (by decide)), fun h1 h2 => (fun e => by have e2 := e; obtain ⟨g, cur, e3, _, e4, _⟩ := T2.hal (add_ne h2 (by decide)); rw [e3] at e2; injection e2 with e2; injection e2 with e2; injection e2 with e2; have := obj_lt e4; omega)⟩
      · -- 14 al
        refine wpOp_step rfl fun K hK => ?_
        go_simp
        exact hK _ _ ⟨_, _, _, _, _, _, _, _, _, _, _, _, _, _, _, rfl, hB.alloc hB.size _, T0.other 14 (fun j hj _ => Below.heap_alloc _ _ _ hj) (by decide), T1.other 14 (fun j hj _ => Below.heap_alloc _ _ _ hj) (by decide), T2.at_al (by decide) hni _ rfl hB.size, fun h1 h2 => D01 (add_ne h1 (by decide)) (add_ne h2 (by decide)), fun h1 h2 => (fun e => by have e2 := e; obtain ⟨g, cur, e3, _, e4, _⟩ := T0.hal (add_ne h1 (by decide)); rw [e3] at e2; injection e2 with e2; injection e2 with e2; injection e2 with e2; have := obj_lt e4; omega), fun h1 h2 => (fun e => by have e2 := e; obtain ⟨g, cur, e3, _, e4, _⟩ := T1.hal (add_ne h1 (by decide)); rw [e3] at e2; injection e2 with e2; injection e2 with e2; injection e2 with e2; have := obj_lt e4; omega)⟩
      · -- 15 st
        have h3 := (hdep 3 (by decide +kernel))
        have h4 := (hdep 12 (by decide +kernel))
        have ne1 := (D01 h4 (hdep 13 (by decide +kernel))).symm
        have ne2 := (D02 h4 (hdep 14 (by decide +kernel))).symm
        obtain ⟨a1, b1, e1, _⟩ := T0.hcl h3
        obtain ⟨g, cur, e2, hgB, hg, hcur, _⟩ := T0.hal h4
        subst e1; subst e2
        refine wpOp_step rfl fun K hK => ?_
        rw [if_pos (by rfl)]
        refine wp_store_row 67 _ _ rfl g _ rfl rfl 67 _ hg (by kernel_rfl) hcur (by unfold fArr; simp [Value.oneCell']) ?_
        exact hK _ _ ⟨_, _, _, _, _, _, _, _, _, _, _, _, _, _, _, rfl, below_setRow hB hgB _, T0.at_st (by decide) h3 h4, T1.other 15 (fun j hj hc => setRow_other _ _ _ _ (fun e => by subst e; exact ne1 (hc _ hg))) (by decide), T2.other 15 (fun j hj hc => setRow_other _ _ _ _ (fun e => by subst e; exact ne2 (hc _ hg))) (by decide), fun h1 h2 => D01 (add_ne h1 (by decide)) (add_ne h2 (by decide)), fun h1 h2 => D02 (add_ne h1 (by decide)) (add_ne h2 (by decide)), fun h1 h2 => D12 (add_ne h1 (by decide)) (add_ne h2 (by decide))⟩
      · -- 16 st
        have h3 := (hdep 7 (by decide +kernel))
        have h4 := (hdep 13 (by decide +kernel))
        have ne0 := D01 (hdep 12 (by decide +kernel)) h4
        have ne2 := (D12 h4 (hdep 14 (by decide +kernel))).symm
        obtain ⟨a1, b1, e1, _⟩ := T1.hcl h3
        obtain ⟨g, cur, e2, hgB, hg, hcur, _⟩ := T1.hal h4
        subst e1; subst e2
        refine wpOp_step rfl fun K hK => ?_
        rw [if_pos (by rfl)]
        refine wp_store_row 67 _ _ rfl g _ rfl rfl 67 _ hg (by kernel_rfl) hcur (by unfold fArr; simp [Value.oneCell']) ?_
        exact hK _ _ ⟨_, _, _, _, _, _, _, _, _, _, _, _, _, _, _, rfl, below_setRow hB hgB _, T0.other 16 (fun j hj hc => setRow_other _ _ _ _ (fun e => by subst e; exact ne0 (hc _ hg))) (by decide), T1.at_st (by decide) h3 h4, T2.other 16 (fun j hj hc => setRow_other _ _ _ _ (fun e => by subst e; exact ne2 (hc _ hg))) (by decide), fun h1 h2 => D01 (add_ne h1 (by decide)) (add_ne h2 (by decide)), fun h1 h2 => D02 (add_ne h1 (by decide)) (add_ne h2 (by decide)), fun h1 h2 => D12 (add_ne h1 (by decide)) (add_ne h2 (by decide))⟩
      · -- 17 st
        have h3 := (hdep 11 (by decide +kernel))
        have h4 := (hdep 14 (by decide +kernel))
        have ne0 := D02 (hdep 12 (by decide +kernel)) h4
        have ne1 := D12 (hdep 13 (by decide +kernel)) h4
        obtain ⟨a1, b1, e1, _⟩ := T2.hcl h3
        obtain ⟨g, cur, e2, hgB, hg, hcur, _⟩ := T2.hal h4
        subst e1; subst e2
        refine wpOp_step rfl fun K hK => ?_
        rw [if_pos (by rfl)]
        refine wp_store_row 67 _ _ rfl g _ rfl rfl 67 _ hg (by kernel_rfl) hcur (by unfold fArr; simp [Value.oneCell']) ?_
        exact hK _ _ ⟨_, _, _, _, _, _, _, _, _, _, _, _, _, _, _, rfl, below_setRow hB hgB _, T0.other 17 (fun j hj hc => setRow_other _ _ _ _ (fun e => by subst e; exact ne0 (hc _ hg))) (by decide), T1.other 17 (fun j hj hc => setRow_other _ _ _ _ (fun e => by subst e; exact ne1 (hc _ hg))) (by decide), T2.at_st (by decide) h3 h4, fun h1 h2 => D01 (add_ne h1 (by decide)) (add_ne h2 (by decide)), fun h1 h2 => D02 (add_ne h1 (by decide)) (add_ne h2 (by decide)), fun h1 h2 => D12 (add_ne h1 (by decide)) (add_ne h2 (by decide))⟩
    · intro L a w hI hL
      obtain ⟨v3, v4, v5, v10, v11, v12, v13, v14, v15, v16, v17, v18, v19, v20, v21, rfl, hB, T0, T1, T2, D01, D02, D12⟩ := hI
      obtain ⟨a0, b0, c0, f0, la0, lb0⟩ := T0.hcl (hL 3 (by decide))
      obtain ⟨g0, cur0, d0, lg0, hg0, _, hs0⟩ := T0.hal (hL 12 (by decide))
      have hs0 := hs0 (hL 15 (by decide))
      rw [c0] at hs0
      injection hs0 with hs0
      subst hs0; subst c0; subst d0
      obtain ⟨a1, b1, c1, f1, la1, lb1⟩ := T1.hcl (hL 7 (by decide))
      obtain ⟨g1, cur1, d1, lg1, hg1, _, hs1⟩ := T1.hal (hL 13 (by decide))
      have hs1 := hs1 (hL 16 (by decide))
      rw [c1] at hs1
      injection hs1 with hs1
      subst hs1; subst c1; subst d1
      obtain ⟨a2, b2, c2, f2, la2, lb2⟩ := T2.hcl (hL 11 (by decide))
      obtain ⟨g2, cur2, d2, lg2, hg2, _, hs2⟩ := T2.hal (hL 14 (by decide))
      have hs2 := hs2 (hL 17 (by decide))
      rw [c2] at hs2
      injection hs2 with hs2
      subst hs2; subst c2; subst d2
      refine hK1 _ _ (Met.intro (hJ1 _ _ ?_))
      (repeat apply Exists.intro)
      refine ⟨?rel, rfl⟩
      case rel => exact Lib.hid ⟨hB, ⟨g0, a0, b0, rfl, lg0, hg0, f0, la0, lb0⟩, ⟨g1, a1, b1, rfl, lg1, hg1, f1, la1, lb1⟩, ⟨g2, a2, b2, rfl, lg2, hg2, f2, la2, lb2⟩⟩
  case rest =>
  obtain ⟨hB1, F0, F1, F2⟩ := hcut.out
  clear hcut
  replace hB1 := Lib.hid hB1
  replace F0 := Lib.hid F0
  replace F1 := Lib.hid F1
  replace F2 := Lib.hid F2
  go_upto_region 2 with (fail)
  go_cut [6, 7, 22, 23, 24, 25, 26, 27, 28, 29] (fun v6 v7 v22 v23 v24 v25 v26 v27 v28 v29 wd => Hid (Below wc.heap.size wc wd ∧ FC wd c wc.heap.size 3 v6 ∧ FC wd c wc.heap.size 4 v7))
  case first =>
    rename_i J1 K1 hJ1 hK1
    refine wp_region_keeps (by kernel_rfl) (fun L a w => ∃ v6 v7 v22 v23 v24 v25 v26 v27 v28 v29 : Value, a = ({ tmps := (.pointer (some ⟨c, 0, none⟩) :: undef :: .slice none 0 0 :: u3 :: u4 :: u5 :: v6 :: v7 :: undef :: undef :: u10 :: u11 :: u12 :: u13 :: u14 :: u15 :: u16 :: u17 :: u18 :: u19 :: u20 :: u21 :: v22 :: v23 :: v24 :: v25 :: v26 :: v27 :: v28 :: v29 :: u30 :: u31 :: u32 :: u33 :: u34 :: u35 :: u36 :: u37 :: u38 :: u39 :: u40 :: undef :: undef :: u43 :: u44 :: u45 :: u46 :: u47 :: u48 :: u49 :: u50 :: u51 :: undef :: u53 :: u54 :: u55 :: u56 :: undef :: u58 :: u59 :: u60 :: u61 :: u62 :: undef :: u64 :: u65 :: u66 :: u67 :: undef :: u69 :: u70 :: u71 :: u72 :: u73 :: undef :: u75 :: u76 :: u77 :: undef :: u79 :: u80 :: u81 :: u82 :: []).toArray, defers := [] } : Act) ∧ Below wc.heap.size wc w ∧ Tri L c 3 wc.heap.size 0 8 10 v22 v23 v24 v25 v6 w ∧ Tri L c 4 wc.heap.size 4 9 11 v26 v27 v28 v29 v7 w ∧ (L 8 = true → L 9 = true → v6 ≠ v7)) (by kernel_rfl) ?_ ?_ ?_
    · exact ⟨_, _, _, _, _, _, _, _, _, _, rfl, (Below.refl _ _).drew, Tri.zero, Tri.zero, nofun⟩
    · intro L a w i hi hni hI hdep
      obtain ⟨v6, v7, v22, v23, v24, v25, v26, v27, v28, v29, rfl, hB, T0, T1, D01⟩ := hI
      have hcase : i = 0 ∨ i = 1 ∨ i = 2 ∨ i = 3 ∨ i = 4 ∨ i = 5 ∨ i = 6 ∨ i = 7 ∨ i = 8 ∨ i = 9 ∨ i = 10 ∨ i = 11 := by
        have hi2 : i < 12 := hi
        omega
      rcases hcase with rfl | rfl | rfl | rfl | rfl | rfl | rfl | rfl | rfl | rfl | rfl | rfl
      · -- 0 mv
        refine wpOp_step rfl fun K hK => ?_
        go_simp
        exact hK _ _ ⟨_, _, _, _, _, _, _, _, _, _, rfl, hB, T0.at_mv (by decide), T1.other 0 (fun _ _ _ => rfl) (by decide), fun h1 h2 => D01 (add_ne h1 (by decide)) (add_ne h2 (by decide))⟩
      · -- 1 nc
        have e1 := T0.hmv (hdep 0 (by decide +kernel))
        subst e1
        refine wpOp_step rfl fun K hK => ?_
        go_simp
        exact hK _ _ ⟨_, _, _, _, _, _, _, _, _, _, rfl, hB, T0.at_nc (by decide), T1.other 1 (fun _ _ _ => rfl) (by decide), fun h1 h2 => D01 (add_ne h1 (by decide)) (add_ne h2 (by decide))⟩
      · -- 2 fa
        have e1 := T0.hnc (hdep 1 (by decide +kernel))
        subst e1
        refine wpOp_step rfl fun K hK => ?_
        go_simp
        exact hK _ _ ⟨_, _, _, _, _, _, _, _, _, _, rfl, hB, T0.at_fa (by decide), T1.other 2 (fun _ _ _ => rfl) (by decide), fun h1 h2 => D01 (add_ne h1 (by decide)) (add_ne h2 (by decide))⟩
      · -- 3 cl
        have e1 := T0.hfa (hdep 2 (by decide +kernel))
        subst e1
        have hF := field_any c 3 w (by decide)
        refine wpOp_step rfl fun K hK => ?_
        go_simp
        go_at_call 36
        refine hF.mono ?_
        rintro e w1 ⟨a1, b1, rfl, hf1, ha1, hb2, hb1⟩
        go_simp
        exact hK _ _ ⟨_, _, _, _, _, _, _, _, _, _, rfl, hB.trans (hb1.mono hB.size), T0.at_cl (by decide) hni hf1 (Nat.le_trans hB.size ha1) (Nat.le_trans hB.size hb2) hb1, T1.other 3 (fun j hj _ => hb1.block j hj) (by decide), fun h1 h2 => D01 (add_ne h1 (by decide)) (add_ne h2 (by decide))⟩
      · -- 4 mv
        refine wpOp_step rfl fun K hK => ?_
        go_simp
        exact hK _ _ ⟨_, _, _, _, _, _, _, _, _, _, rfl, hB, T0.other 4 (fun _ _ _ => rfl) (by decide), T1.at_mv (by decide), fun h1 h2 => D01 (add_ne h1 (by decide)) (add_ne h2 (by decide))⟩
      · -- 5 nc
        have e1 := T1.hmv (hdep 4 (by decide +kernel))
        subst e1
        refine wpOp_step rfl fun K hK => ?_
        go_simp
        exact hK _ _ ⟨_, _, _, _, _, _, _, _, _, _, rfl, hB, T0.other 5 (fun _ _ _ => rfl) (by decide), T1.at_nc (by decide), fun h1 h2 => D01 (add_ne h1 (by decide)) (add_ne h2 (by decide))⟩
      · -- 6 fa
        have e1 := T1.hnc (hdep 5 (by decide +kernel))
        subst e1
        refine wpOp_step rfl fun K hK => ?_
        go_simp
        exact hK _ _ ⟨_, _, _, _, _, _, _, _, _, _, rfl, hB, T0.other 6 (fun _ _ _ => rfl) (by decide), T1.at_fa (by decide), fun h1 h2 => D01 (add_ne h1 (by decide)) (add_ne h2 (by decide))⟩
      · -- 7 cl
        have e1 := T1.hfa (hdep 6 (by decide +kernel))
        subst e1
        have hF := field_any c 4 w (by decide)
        refine wpOp_step rfl fun K hK => ?_
        go_simp
        go_at_call 36
        refine hF.mono ?_
        rintro e w1 ⟨a1, b1, rfl, hf1, ha1, hb2, hb1⟩
        go_simp
        exact hK _ _ ⟨_, _, _, _, _, _, _, _, _, _, rfl, hB.trans (hb1.mono hB.size), T0.other 7 (fun j hj _ => hb1.block j hj) (by decide), T1.at_cl (by decide) hni hf1 (Nat.le_trans hB.size ha1) (Nat.le_trans hB.size hb2) hb1, fun h1 h2 => D01 (add_ne h1 (by decide)) (add_ne h2 (by decide))⟩
      · -- 8 al
        refine wpOp_step rfl fun K hK => ?_
        go_simp
        exact hK _ _ ⟨_, _, _, _, _, _, _, _, _, _, rfl, hB.alloc hB.size _, T0.at_al (by decide) hni _ rfl hB.size, T1.other 8 (fun j hj _ => Below.heap_alloc _ _ _ hj) (by decide), fun h1 h2 => (fun e => by have e2 := e; obtain ⟨g, cur, e3, _, e4, _⟩ := T1.hal (add_ne h2 (by decide)); rw [e3] at e2; injection e2 with e2; injection e2 with e2; injection e2 with e2; have := obj_lt e4; omega)⟩
      · -- 9 al
        refine wpOp_step rfl fun K hK => ?_
        go_simp
        exact hK _ _ ⟨_, _, _, _, _, _, _, _, _, _, rfl, hB.alloc hB.size _, T0.other 9 (fun j hj _ => Below.heap_alloc _ _ _ hj) (by decide), T1.at_al (by decide) hni _ rfl hB.size, fun h1 h2 => (fun e => by have e2 := e; obtain ⟨g, cur, e3, _, e4, _⟩ := T0.hal (add_ne h1 (by decide)); rw [e3] at e2; injection e2 with e2; injection e2 with e2; injection e2 with e2; have := obj_lt e4; omega)⟩
      · -- 10 st
        have h3 := (hdep 3 (by decide +kernel))
        have h4 := (hdep 8 (by decide +kernel))
        have ne1 := (D01 h4 (hdep 9 (by decide +kernel))).symm
        obtain ⟨a1, b1, e1, _⟩ := T0.hcl h3
        obtain ⟨g, cur, e2, hgB, hg, hcur, _⟩ := T0.hal h4
        subst e1; subst e2
        refine wpOp_step rfl fun K hK => ?_
        rw [if_pos (by rfl)]
        refine wp_store_row 67 _ _ rfl g _ rfl rfl 67 _ hg (by kernel_rfl) hcur (by unfold fArr; simp [Value.oneCell']) ?_
        exact hK _ _ ⟨_, _, _, _, _, _, _, _, _, _, rfl, below_setRow hB hgB _, T0.at_st (by decide) h3 h4, T1.other 10 (fun j hj hc => setRow_other _ _ _ _ (fun e => by subst e; exact ne1 (hc _ hg))) (by decide), fun h1 h2 => D01 (add_ne h1 (by decide)) (add_ne h2 (by decide))⟩
      · -- 11 st
        have h3 := (hdep 7 (by decide +kernel))
        have h4 := (hdep 9 (by decide +kernel))
        have ne0 := D01 (hdep 8 (by decide +kernel)) h4
        obtain ⟨a1, b1, e1, _⟩ := T1.hcl h3
        obtain ⟨g, cur, e2, hgB, hg, hcur, _⟩ := T1.hal h4
        subst e1; subst e2
        refine wpOp_step rfl fun K hK => ?_
        rw [if_pos (by rfl)]
        refine wp_store_row 67 _ _ rfl g _ rfl rfl 67 _ hg (by kernel_rfl) hcur (by unfold fArr; simp [Value.oneCell']) ?_
        exact hK _ _ ⟨_, _, _, _, _, _, _, _, _, _, rfl, below_setRow hB hgB _, T0.other 11 (fun j hj hc => setRow_other _ _ _ _ (fun e => by subst e; exact ne0 (hc _ hg))) (by decide), T1.at_st (by decide) h3 h4, fun h1 h2 => D01 (add_ne h1 (by decide)) (add_ne h2 (by decide))⟩
    · intro L a w hI hL
      obtain ⟨v6, v7, v22, v23, v24, v25, v26, v27, v28, v29, rfl, hB, T0, T1, D01⟩ := hI
      obtain ⟨a0, b0, c0, f0, la0, lb0⟩ := T0.hcl (hL 3 (by decide))
      obtain ⟨g0, cur0, d0, lg0, hg0, _, hs0⟩ := T0.hal (hL 8 (by decide))
      have hs0 := hs0 (hL 10 (by decide))
      rw [c0] at hs0
      injection hs0 with hs0
      subst hs0; subst c0; subst d0
      obtain ⟨a1, b1, c1, f1, la1, lb1⟩ := T1.hcl (hL 7 (by decide))
      obtain ⟨g1, cur1, d1, lg1, hg1, _, hs1⟩ := T1.hal (hL 9 (by decide))
      have hs1 := hs1 (hL 11 (by decide))
      rw [c1] at hs1
      injection hs1 with hs1
      subst hs1; subst c1; subst d1
      refine hK1 _ _ (Met.intro (hJ1 _ _ ?_))
      (repeat apply Exists.intro)
      refine ⟨?rel, rfl⟩
      case rel => exact Lib.hid ⟨hB, ⟨g0, a0, b0, rfl, lg0, hg0, f0, la0, lb0⟩, ⟨g1, a1, b1, rfl, lg1, hg1, f1, la1, lb1⟩⟩
  case rest =>
  obtain ⟨hB2, F3, F4⟩ := hcut.out
  clear hcut
  replace F0 := Lib.hid (F0.out.kept hB2)
  replace F1 := Lib.hid (F1.out.kept hB2)
  replace F2 := Lib.hid (F2.out.kept hB2)
  replace F3 := Lib.hid (F3.weak hB1.out.size)
  replace F4 := Lib.hid (F4.weak hB1.out.size)
  replace hB1 := Lib.hid (hB1.out.trans (hB2.mono hB1.out.size))
  clear hB2
  go_upto_region 3 with (fail)
  go_cut [8, 9, 30, 31, 32, 33, 34, 35, 36, 37] (fun v8 v9 v30 v31 v32 v33 v34 v35 v36 v37 wd => Hid (Below wc.heap.size wc wd ∧ FC wd c wc.heap.size 5 v8 ∧ FC wd c wc.heap.size 6 v9))
  case first =>
    rename_i J1 K1 hJ1 hK1
    refine wp_region_keeps (by kernel_rfl) (fun L a w => ∃ v8 v9 v30 v31 v32 v33 v34 v35 v36 v37 : Value, a = ({ tmps := (.pointer (some ⟨c, 0, none⟩) :: undef :: .slice none 0 0 :: u3 :: u4 :: u5 :: u6 :: u7 :: v8 :: v9 :: u10 :: u11 :: u12 :: u13 :: u14 :: u15 :: u16 :: u17 :: u18 :: u19 :: u20 :: u21 :: u22 :: u23 :: u24 :: u25 :: u26 :: u27 :: u28 :: u29 :: v30 :: v31 :: v32 :: v33 :: v34 :: v35 :: v36 :: v37 :: u38 :: u39 :: u40 :: undef :: undef :: u43 :: u44 :: u45 :: u46 :: u47 :: u48 :: u49 :: u50 :: u51 :: undef :: u53 :: u54 :: u55 :: u56 :: undef :: u58 :: u59 :: u60 :: u61 :: u62 :: undef :: u64 :: u65 :: u66 :: u67 :: undef :: u69 :: u70 :: u71 :: u72 :: u73 :: undef :: u75 :: u76 :: u77 :: undef :: u79 :: u80 :: u81 :: u82 :: []).toArray, defers := [] } : Act) ∧ Below wc.heap.size wc w ∧ Tri L c 5 wc.heap.size 0 8 10 v30 v31 v32 v33 v8 w ∧ Tri L c 6 wc.heap.size 4 9 11 v34 v35 v36 v37 v9 w ∧ (L 8 = true → L 9 = true → v8 ≠ v9)) (by kernel_rfl) ?_ ?_ ?_
    · exact ⟨_, _, _, _, _, _, _, _, _, _, rfl, (Below.refl _ _).drew, Tri.zero, Tri.zero, nofun⟩
    · intro L a w i hi hni hI hdep
      obtain ⟨v8, v9, v30, v31, v32, v33, v34, v35, v36, v37, rfl, hB, T0, T1, D01⟩ := hI
      have hcase : i = 0 ∨ i = 1 ∨ i = 2 ∨ i = 3 ∨ i = 4 ∨ i = 5 ∨ i = 6 ∨ i = 7 ∨ i = 8 ∨ i = 9 ∨ i = 10 ∨ i = 11 := by
        have hi2 : i < 12 := hi
        omega
      rcases hcase with rfl | rfl | rfl | rfl | rfl | rfl | rfl | rfl | rfl | rfl | rfl | rfl
      · -- 0 mv
        refine wpOp_step rfl fun K hK => ?_
        go_simp
        exact hK _ _ ⟨_, _, _, _, _, _, _, _, _, _, rfl, hB, T0.at_mv (by decide), T1.other 0 (fun _ _ _ => rfl) (by decide), fun h1 h2 => D01 (add_ne h1 (by decide)) (add_ne h2 (by decide))⟩
      · -- 1 nc
        have e1 := T0.hmv (hdep 0 (by decide +kernel))
        subst e1
        refine wpOp_step rfl fun K hK => ?_
        go_simp
        exact hK _ _ ⟨_, _, _, _, _, _, _, _, _, _, rfl, hB, T0.at_nc (by decide), T1.other 1 (fun _ _ _ => rfl) (by decide), fun h1 h2 => D01 (add_ne h1 (by decide)) (add_ne h2 (by decide))⟩
      · -- 2 fa
        have e1 := T0.hnc (hdep 1 (by decide +kernel))
        subst e1
        refine wpOp_step rfl fun K hK => ?_
        go_simp
        exact hK _ _ ⟨_, _, _, _, _, _, _, _, _, _, rfl, hB, T0.at_fa (by decide), T1.other 2 (fun _ _ _ => rfl) (by decide), fun h1 h2 => D01 (add_ne h1 (by decide)) (add_ne h2 (by decide))⟩
      · -- 3 cl
        have e1 := T0.hfa (hdep 2 (by decide +kernel))
        subst e1
        have hF := field_big c 5 w (by decide)
        refine wpOp_step rfl fun K hK => ?_
        go_simp
        go_at_call 37
        refine hF.mono ?_
        rintro e w1 ⟨a1, b1, rfl, hf1, ha1, hb2, hb1⟩
        go_simp
        exact hK _ _ ⟨_, _, _, _, _, _, _, _, _, _, rfl, hB.trans (hb1.mono hB.size), T0.at_cl (by decide) hni hf1 (Nat.le_trans hB.size ha1) (Nat.le_trans hB.size hb2) hb1, T1.other 3 (fun j hj _ => hb1.block j hj) (by decide), fun h1 h2 => D01 (add_ne h1 (by decide)) (add_ne h2 (by decide))⟩
      · -- 4 mv
        refine wpOp_step rfl fun K hK => ?_
        go_simp
        exact hK _ _ ⟨_, _, _, _, _, _, _, _, _, _, rfl, hB, T0.other 4 (fun _ _ _ => rfl) (by decide), T1.at_mv (by decide), fun h1 h2 => D01 (add_ne h1 (by decide)) (add_ne h2 (by decide))⟩
      · -- 5 nc
        have e1 := T1.hmv (hdep 4 (by decide +kernel))
        subst e1
        refine wpOp_step rfl fun K hK => ?_
        go_simp
        exact hK _ _ ⟨_, _, _, _, _, _, _, _, _, _, rfl, hB, T0.other 5 (fun _ _ _ => rfl) (by decide), T1.at_nc (by decide), fun h1 h2 => D01 (add_ne h1 (by decide)) (add_ne h2 (by decide))⟩
      · -- 6 fa
        have e1 := T1.hnc (hdep 5 (by decide +kernel))
        subst e1
        refine wpOp_step rfl fun K hK => ?_
        go_simp
        exact hK _ _ ⟨_, _, _, _, _, _, _, _, _, _, rfl, hB, T0.other 6 (fun _ _ _ => rfl) (by decide), T1.at_fa (by decide), fun h1 h2 => D01 (add_ne h1 (by decide)) (add_ne h2 (by decide))⟩
      · -- 7 cl
        have e1 := T1.hfa (hdep 6 (by decide +kernel))
        subst e1
        have hF := field_big c 6 w (by decide)
        refine wpOp_step rfl fun K hK => ?_
        go_simp
        go_at_call 37
        refine hF.mono ?_
        rintro e w1 ⟨a1, b1, rfl, hf1, ha1, hb2, hb1⟩
        go_simp
        exact hK _ _ ⟨_, _, _, _, _, _, _, _, _, _, rfl, hB.trans (hb1.mono hB.size), T0.other 7 (fun j hj _ => hb1.block j hj) (by decide), T1.at_cl (by decide) hni hf1 (Nat.le_trans hB.size ha1) (Nat.le_trans hB.size hb2) hb1, fun h1 h2 => D01 (add_ne h1 (by decide)) (add_ne h2 (by decide))⟩
      · -- 8 al
        refine wpOp_step rfl fun K hK => ?_
        go_simp
        exact hK _ _ ⟨_, _, _, _, _, _, _, _, _, _, rfl, hB.alloc hB.size _, T0.at_al (by decide) hni _ rfl hB.size, T1.other 8 (fun j hj _ => Below.heap_alloc _ _ _ hj) (by decide), fun h1 h2 => (fun e => by have e2 := e; obtain ⟨g, cur, e3, _, e4, _⟩ := T1.hal (add_ne h2 (by decide)); rw [e3] at e2; injection e2 with e2; injection e2 with e2; injection e2 with e2; have := obj_lt e4; omega)⟩
      · -- 9 al
        refine wpOp_step rfl fun K hK => ?_
        go_simp
        exact hK _ _ ⟨_, _, _, _, _, _, _, _, _, _, rfl, hB.alloc hB.size _, T0.other 9 (fun j hj _ => Below.heap_alloc _ _ _ hj) (by decide), T1.at_al (by decide) hni _ rfl hB.size, fun h1 h2 => (fun e => by have e2 := e; obtain ⟨g, cur, e3, _, e4, _⟩ := T0.hal (add_ne h1 (by decide)); rw [e3] at e2; injection e2 with e2; injection e2 with e2; injection e2 with e2; have := obj_lt e4; omega)⟩
      · -- 10 st
        have h3 := (hdep 3 (by decide +kernel))
        have h4 := (hdep 8 (by decide +kernel))
        have ne1 := (D01 h4 (hdep 9 (by decide +kernel))).symm
        obtain ⟨a1, b1, e1, _⟩ := T0.hcl h3
        obtain ⟨g, cur, e2, hgB, hg, hcur, _⟩ := T0.hal h4
        subst e1; subst e2
        refine wpOp_step rfl fun K hK => ?_
        rw [if_pos (by rfl)]
        refine wp_store_row 67 _ _ rfl g _ rfl rfl 67 _ hg (by kernel_rfl) hcur (by unfold fArr; simp [Value.oneCell']) ?_
        exact hK _ _ ⟨_, _, _, _, _, _, _, _, _, _, rfl, below_setRow hB hgB _, T0.at_st (by decide) h3 h4, T1.other 10 (fun j hj hc => setRow_other _ _ _ _ (fun e => by subst e; exact ne1 (hc _ hg))) (by decide), fun h1 h2 => D01 (add_ne h1 (by decide)) (add_ne h2 (by decide))⟩
      · -- 11 st
        have h3 := (hdep 7 (by decide +kernel))
        have h4 := (hdep 9 (by decide +kernel))
        have ne0 := D01 (hdep 8 (by decide +kernel)) h4
        obtain ⟨a1, b1, e1, _⟩ := T1.hcl h3
        obtain ⟨g, cur, e2, hgB, hg, hcur, _⟩ := T1.hal h4
        subst e1; subst e2
        refine wpOp_step rfl fun K hK => ?_
        rw [if_pos (by rfl)]
        refine wp_store_row 67 _ _ rfl g _ rfl rfl 67 _ hg (by kernel_rfl) hcur (by unfold fArr; simp [Value.oneCell']) ?_
        exact hK _ _ ⟨_, _, _, _, _, _, _, _, _, _, rfl, below_setRow hB hgB _, T0.other 11 (fun j hj hc => setRow_other _ _ _ _ (fun e => by subst e; exact ne0 (hc _ hg))) (by decide), T1.at_st (by decide) h3 h4, fun h1 h2 => D01 (add_ne h1 (by decide)) (add_ne h2 (by decide))⟩
    · intro L a w hI hL
      obtain ⟨v8, v9, v30, v31, v32, v33, v34, v35, v36, v37, rfl, hB, T0, T1, D01⟩ := hI
      obtain ⟨a0, b0, c0, f0, la0, lb0⟩ := T0.hcl (hL 3 (by decide))
      obtain ⟨g0, cur0, d0, lg0, hg0, _, hs0⟩ := T0.hal (hL 8 (by decide))
      have hs0 := hs0 (hL 10 (by decide))
      rw [c0] at hs0
      injection hs0 with hs0
      subst hs0; subst c0; subst d0
      obtain ⟨a1, b1, c1, f1, la1, lb1⟩ := T1.hcl (hL 7 (by decide))
      obtain ⟨g1, cur1, d1, lg1, hg1, _, hs1⟩ := T1.hal (hL 9 (by decide))
      have hs1 := hs1 (hL 11 (by decide))
      rw [c1] at hs1
      injection hs1 with hs1
      subst hs1; subst c1; subst d1
      refine hK1 _ _ (Met.intro (hJ1 _ _ ?_))
      (repeat apply Exists.intro)
      refine ⟨?rel, rfl⟩
      case rel => exact Lib.hid ⟨hB, ⟨g0, a0, b0, rfl, lg0, hg0, f0, la0, lb0⟩, ⟨g1, a1, b1, rfl, lg1, hg1, f1, la1, lb1⟩⟩
  case rest =>
  obtain ⟨hB2, F5, F6⟩ := hcut.out
  clear hcut
  replace F0 := F0.out.kept hB2
  replace F1 := F1.out.kept hB2
  replace F2 := F2.out.kept hB2
  replace F3 := F3.out.kept hB2
  replace F4 := F4.out.kept hB2
  replace F5 := F5.weak hB1.out.size
  replace F6 := F6.weak hB1.out.size
  replace hB1 := hB1.out.trans (hB2.mono hB1.out.size)
  clear hB2
  have hc3 : wc.cell? ⟨c, 0, none⟩ = some (.int .i64 k) := (hB1.cell (World.block_lt_of_cell? X _ hc)).trans hc
  clear hc
  replace hB1 := Lib.hid hB1
  obtain ⟨g0, a0, b0, rfl, lg0, hg0, f0, la0, lb0⟩ := F0
  obtain ⟨g1, a1, b1, rfl, lg1, hg1, f1, la1, lb1⟩ := F1
  obtain ⟨g2, a2, b2, rfl, lg2, hg2, f2, la2, lb2⟩ := F2
  obtain ⟨g3, a3, b3, rfl, lg3, hg3, f3, la3, lb3⟩ := F3
  obtain ⟨g4, a4, b4, rfl, lg4, hg4, f4, la4, lb4⟩ := F4
  obtain ⟨g5, a5, b5, rfl, lg5, hg5, f5, la5, lb5⟩ := F5
  obtain ⟨g6, a6, b6, rfl, lg6, hg6, f6, la6, lb6⟩ := F6
  have q00 : wc.cell? ⟨g0, 0, none⟩ = some (.int .i64 (wid 0 : Nat)) := obj_cell hg0 rfl
  have q01 : wc.cell? ⟨g0, 1, none⟩ = some (.func (.func (layF 0)) #[] #[.pointer (some ⟨a0, 0, none⟩), .pointer (some ⟨b0, 0, none⟩)]) := obj_cell hg0 rfl
  have q02 : wc.cell? ⟨g0, 2, none⟩ = some (.func (.func (takF 0)) #[] #[.pointer (some ⟨b0, 0, none⟩), .pointer (some ⟨a0, 0, none⟩)]) := obj_cell hg0 rfl
  clear hg0
  have q10 : wc.cell? ⟨g1, 0, none⟩ = some (.int .i64 (wid 1 : Nat)) := obj_cell hg1 rfl
  have q11 : wc.cell? ⟨g1, 1, none⟩ = some (.func (.func (layF 1)) #[] #[.pointer (some ⟨a1, 0, none⟩), .pointer (some ⟨b1, 0, none⟩)]) := obj_cell hg1 rfl
  have q12 : wc.cell? ⟨g1, 2, none⟩ = some (.func (.func (takF 1)) #[] #[.pointer (some ⟨b1, 0, none⟩), .pointer (some ⟨a1, 0, none⟩)]) := obj_cell hg1 rfl
  clear hg1
  have q20 : wc.cell? ⟨g2, 0, none⟩ = some (.int .i64 (wid 2 : Nat)) := obj_cell hg2 rfl
  have q21 : wc.cell? ⟨g2, 1, none⟩ = some (.func (.func (layF 2)) #[] #[.pointer (some ⟨a2, 0, none⟩), .pointer (some ⟨b2, 0, none⟩)]) := obj_cell hg2 rfl
  have q22 : wc.cell? ⟨g2, 2, none⟩ = some (.func (.func (takF 2)) #[] #[.pointer (some ⟨b2, 0, none⟩), .pointer (some ⟨a2, 0, none⟩)]) := obj_cell hg2 rfl
  clear hg2
  have q30 : wc.cell? ⟨g3, 0, none⟩ = some (.int .i64 (wid 3 : Nat)) := obj_cell hg3 rfl
  have q31 : wc.cell? ⟨g3, 1, none⟩ = some (.func (.func (layF 3)) #[] #[.pointer (some ⟨a3, 0, none⟩), .pointer (some ⟨b3, 0, none⟩)]) := obj_cell hg3 rfl
  have q32 : wc.cell? ⟨g3, 2, none⟩ = some (.func (.func (takF 3)) #[] #[.pointer (some ⟨b3, 0, none⟩), .pointer (some ⟨a3, 0, none⟩)]) := obj_cell hg3 rfl
  clear hg3
  have q40 : wc.cell? ⟨g4, 0, none⟩ = some (.int .i64 (wid 4 : Nat)) := obj_cell hg4 rfl
  have q41 : wc.cell? ⟨g4, 1, none⟩ = some (.func (.func (layF 4)) #[] #[.pointer (some ⟨a4, 0, none⟩), .pointer (some ⟨b4, 0, none⟩)]) := obj_cell hg4 rfl
  have q42 : wc.cell? ⟨g4, 2, none⟩ = some (.func (.func (takF 4)) #[] #[.pointer (some ⟨b4, 0, none⟩), .pointer (some ⟨a4, 0, none⟩)]) := obj_cell hg4 rfl
  clear hg4
  have q50 : wc.cell? ⟨g5, 0, none⟩ = some (.int .i64 (wid 5 : Nat)) := obj_cell hg5 rfl
  have q51 : wc.cell? ⟨g5, 1, none⟩ = some (.func (.func (layF 5)) #[] #[.pointer (some ⟨a5, 0, none⟩), .pointer (some ⟨b5, 0, none⟩)]) := obj_cell hg5 rfl
  have q52 : wc.cell? ⟨g5, 2, none⟩ = some (.func (.func (takF 5)) #[] #[.pointer (some ⟨b5, 0, none⟩), .pointer (some ⟨a5, 0, none⟩)]) := obj_cell hg5 rfl
  clear hg5
  have q60 : wc.cell? ⟨g6, 0, none⟩ = some (.int .i64 (wid 6 : Nat)) := obj_cell hg6 rfl
  have q61 : wc.cell? ⟨g6, 1, none⟩ = some (.func (.func (layF 6)) #[] #[.pointer (some ⟨a6, 0, none⟩), .pointer (some ⟨b6, 0, none⟩)]) := obj_cell hg6 rfl
  have q62 : wc.cell? ⟨g6, 2, none⟩ = some (.func (.func (takF 6)) #[] #[.pointer (some ⟨b6, 0, none⟩), .pointer (some ⟨a6, 0, none⟩)]) := obj_cell hg6 rfl
  clear hg6
  have hG : ∀ W, Below wc.heap.size wc W → ∀ i, i < 7 → Fld W c i (sel a0 a1 a2 a3 a4 a5 a6 i) (sel b0 b1 b2 b3 b4 b5 b6 i) ∧ X.heap.size ≤ sel a0 a1 a2 a3 a4 a5 a6 i ∧ X.heap.size ≤ sel b0 b1 b2 b3 b4 b5 b6 i := fun W hW i hi => by
    have hcase : i = 0 ∨ i = 1 ∨ i = 2 ∨ i = 3 ∨ i = 4 ∨ i = 5 ∨ i = 6 := by omega
    rcases hcase with rfl | rfl | rfl | rfl | rfl | rfl | rfl
    · exact ⟨f0.below hW, la0, lb0⟩
    · exact ⟨f1.below hW, la1, lb1⟩
    · exact ⟨f2.below hW, la2, lb2⟩
    · exact ⟨f3.below hW, la3, lb3⟩
    · exact ⟨f4.below hW, la4, lb4⟩
    · exact ⟨f5.below hW, la5, lb5⟩
    · exact ⟨f6.below hW, la6, lb6⟩
  replace hG := Lib.hid hG
  replace f0 := Lib.hid f0
  replace f1 := Lib.hid f1
  replace f2 := Lib.hid f2
  replace f3 := Lib.hid f3
  replace f4 := Lib.hid f4
  replace f5 := Lib.hid f5
  replace f6 := Lib.hid f6
  have hA : ∀ cs, Below wc.heap.size wc (wc.alloc (.cells cs 67)) := fun cs => (Below.refl _ _).alloc (Nat.le_refl _) _
  have hN : ∀ cs, (wc.alloc (.cells cs 67)).heap[wc.heap.size]? = some (.cells cs 67 (0, 0)) := fun cs => heap_alloc_new wc _
  replace hA := Lib.hid hA
  replace hN := Lib.hid hN
  by_cases e1 : k = 1
  · subst e1
    go_wp2_with fail
    go_ret
    refine ⟨_, rfl, ⟨_, _, hG.out _ (hA.out _), .inr ⟨by decide, _, rfl, hB1.out.size, ?_⟩⟩, hB1.out.trans ((hA.out _).mono hB1.out.size)⟩
    exact hN.out _
  have n1 : (k == 1) = false := by simpa using e1
  by_cases e2 : k = 2
  · subst e2
    go_wp2_with fail
    go_ret
    refine ⟨_, rfl, ⟨_, _, hG.out _ (hA.out _), .inr ⟨by decide, _, rfl, hB1.out.size, ?_⟩⟩, hB1.out.trans ((hA.out _).mono hB1.out.size)⟩
    exact hN.out _
  have n2 : (k == 2) = false := by simpa using e2
  by_cases e3 : k = 3
  · subst e3
    go_wp2_with fail
    go_ret
    refine ⟨_, rfl, ⟨_, _, hG.out _ (hA.out _), .inr ⟨by decide, _, rfl, hB1.out.size, ?_⟩⟩, hB1.out.trans ((hA.out _).mono hB1.out.size)⟩
    exact hN.out _
  have n3 : (k == 3) = false := by simpa using e3
  by_cases e4 : k = 4
  · subst e4
    go_wp2_with fail
    go_ret
    refine ⟨_, rfl, ⟨_, _, hG.out _ (hA.out _), .inr ⟨by decide, _, rfl, hB1.out.size, ?_⟩⟩, hB1.out.trans ((hA.out _).mono hB1.out.size)⟩
    exact hN.out _
  have n4 : (k == 4) = false := by simpa using e4
  by_cases e8 : k = 8
  · subst e8
    go_wp2_with fail
    go_ret
    refine ⟨_, rfl, ⟨_, _, hG.out _ (hA.out _), .inr ⟨by decide, _, rfl, hB1.out.size, ?_⟩⟩, hB1.out.trans ((hA.out _).mono hB1.out.size)⟩
    exact hN.out _
  have n8 : (k == 8) = false := by simpa using e8
  by_cases e5 : k = 5
  · subst e5
    go_wp2_with fail
    go_ret
    refine ⟨_, rfl, ⟨_, _, hG.out _ (hA.out _), .inr ⟨by decide, _, rfl, hB1.out.size, ?_⟩⟩, hB1.out.trans ((hA.out _).mono hB1.out.size)⟩
    exact hN.out _
  have n5 : (k == 5) = false := by simpa using e5
  by_cases e6 : k = 6
  · subst e6
    go_wp2_with fail
    go_ret
    refine ⟨_, rfl, ⟨_, _, hG.out _ (hA.out _), .inr ⟨by decide, _, rfl, hB1.out.size, ?_⟩⟩, hB1.out.trans ((hA.out _).mono hB1.out.size)⟩
    exact hN.out _
  have n6 : (k == 6) = false := by simpa using e6
  by_cases e7 : k = 7
  · subst e7
    go_wp2_with fail
    go_ret
    refine ⟨_, rfl, ⟨_, _, hG.out _ (hA.out _), .inr ⟨by decide, _, rfl, hB1.out.size, ?_⟩⟩, hB1.out.trans ((hA.out _).mono hB1.out.size)⟩
    exact hN.out _
  have n7 : (k == 7) = false := by simpa using e7
  by_cases e9 : k = 9
  · subst e9
    go_wp2_with fail
    go_ret
    refine ⟨_, rfl, ⟨_, _, hG.out _ (hA.out _), .inr ⟨by decide, _, rfl, hB1.out.size, ?_⟩⟩, hB1.out.trans ((hA.out _).mono hB1.out.size)⟩
    exact hN.out _
  have n9 : (k == 9) = false := by simpa using e9
  have hk : known k = false := by unfold known; simp; omega
  have hu := (uses_known k).2 hk
  go_wp2_with fail
  go_ret
  refine ⟨_, rfl, ⟨_, _, hG.out _ (Below.refl _ _), .inl ⟨?_, rfl⟩⟩, hB1.out⟩
  unfold flds hasN
  rw [hu]
  rfl
end Go.Proofs.Ytgcliallkfnhaaa
