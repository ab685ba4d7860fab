/- The contract of Schedule, whatever comes; flows in memory: pay.
  The contract of nets: what members get of each currency, less what they pay. -/
import Derived.Test.YthocnlalahknjaaGreatQPee
namespace Go.Proofs.YthocnlalahknjaaGreat.Dd
open Go.RowKit Go.Maps
set_option linter.unusedVariables false

set_option maxHeartbeats 1000000 in
set_option maxRecDepth 100000 in
theorem schedule_any (v : Value) (rows : List (List Int)) (p : Option Addr) (n cap : Nat) (zs : List Int) (w : World) (h : NSeq w v rows) (hs : Seq64 w p n zs) (hlen : rows.length ≤ 4611686018427387904) (hw : ∀ r ∈ rows, r.length ≤ 4611686018427387904) :
    Calls Tryz.prog 13 #[v, .slice p n cap] w fun e w' => Below w.heap.size w w' ∧ SchOut rows zs w w' e := by
  have hmb := mayBeD_any p n cap zs w hs
  cases hD : mayD zs with
  | false =>
    rw [hD] at hmb
    go_enter Tryz.func13, Tryz.ntmps13
    go_wp2_with (go_at_call 32; (with_reducible refine hmb.mono ?_); rintro e w1 ⟨rfl, hw1⟩; replace hw1 := hw1.symm; subst hw1)
    go_ret2
    exact ⟨Below.refl _ _, .inl ⟨hD, rfl⟩⟩
  | true =>
    cases hM : manyN rows with
    | true =>
      have htm := tooMany_any v rows w h hlen hw
      rw [hD] at hmb
      rw [hM] at htm
      go_enter Tryz.func13, Tryz.ntmps13
      go_wp2_with (first | (go_at_call 32; (with_reducible refine hmb.mono ?_); rintro e w1 ⟨rfl, hw1⟩; replace hw1 := hw1.symm; subst hw1) | (go_at_call 33; (with_reducible refine htm.mono ?_); rintro e w1 ⟨rfl, q, rfl⟩))
      go_ret2
      exact ⟨below_drawn w q, .inr (.inl ⟨hD, hM, rfl⟩)⟩
    | false =>
      refine (schedule_main v rows p n cap zs w h hs hD hM).mono ?_
      rintro e w' ⟨hb, ⟨h1, rfl⟩ | ⟨h1, h2⟩⟩
      · exact ⟨hb, .inr (.inr (.inl ⟨hD, hM, h1, rfl⟩))⟩
      · exact ⟨hb, .inr (.inr (.inr ⟨hD, hM, h1, h2⟩))⟩

/-- the flows of a member and a currency stand in cell m * 8 + c, in P's blocks -/
structure FlowsV (P : Nat → Prop) (w : World) (f : Nat) (vs : Nat → Value) (F : Nat → List Int) : Prop where
  obj : w.heap[f]? = some (.cells ((List.range 128).map vs).toArray 67 (0, 0))
  row : ∀ i, i < 128 → w.ownsRow 0 2 1 (vs i) (F i).length ((F i).map (Value.int .i64))
  ne : ∀ i, i < 128 → (vs i).ownBlock ≠ some f
  ap : ∀ i j, i < 128 → j < 128 → i ≠ j → ∀ g, (vs i).ownBlock = some g → (vs j).ownBlock ≠ some g
  own : ∀ i, i < 128 → ∀ g, (vs i).ownBlock = some g → P g
  pf : P f
def FlowsIn (P : Nat → Prop) (w : World) (f : Nat) (F : Nat → List Int) : Prop := ∃ vs, FlowsV P w f vs F
theorem info2 : (Tryz.prog.info? 2).map (fun i => (i.zero, i.size, i.bytes)) = some (some (.int .i64 0), 1, 8) := by kernel_rfl
def updF {α : Type} (f : Nat → α) (i : Nat) (x : α) : Nat → α := fun j => if j = i then x else f j
theorem map_updF {α : Type} (vs : Nat → α) (i : Nat) (x : α) (n : Nat) (h : i < n) : ((List.range n).map vs).toArray.setIfInBounds i x = ((List.range n).map (updF vs i x)).toArray := by
  apply Array.ext
  · simp
  · intro j h1 h2
    simp only [List.setIfInBounds_toArray, List.getElem_toArray, List.getElem_map, List.getElem_range, updF]
    by_cases hj : j = i
    · subst hj; simp
    · rw [if_neg hj, List.getElem_set_ne (Ne.symm hj)]; simp
theorem FlowsV.lt {P : Nat → Prop} {w : World} {f : Nat} {vs : Nat → Value} {F : Nat → List Int} (h : FlowsV P w f vs F) : f < w.heap.size := obj_lt h.obj
theorem FlowsV.cell {P : Nat → Prop} {w : World} {f : Nat} {vs : Nat → Value} {F : Nat → List Int} (h : FlowsV P w f vs F) {i : Nat} (hi : i < 128) : w.cell? ⟨f, i, none⟩ = some (vs i) := obj_cell h.obj (by simp [hi])
theorem FlowsV.kept {P : Nat → Prop} {w w' : World} {f : Nat} {vs : Nat → Value} {F : Nat → List Int} (h : FlowsV P w f vs F) (hb : Below w.heap.size w w') : FlowsV P w' f vs F :=
  ⟨(hb.block f h.lt).trans h.obj, fun i hi => orow_kept (h.row i hi) fun g hg => hb.block g (World.ownsRow.lt (h.row i hi) g hg).2, h.ne, h.ap, h.own, h.pf⟩
theorem FlowsV.weak {P Q : Nat → Prop} {w : World} {f : Nat} {vs : Nat → Value} {F : Nat → List Int} (h : FlowsV P w f vs F) (hq : ∀ j, j < w.heap.size → P j → Q j) : FlowsV Q w f vs F :=
  ⟨h.obj, h.row, h.ne, h.ap, fun i hi g hg => hq g (World.ownsRow.lt (h.row i hi) g hg).2 (h.own i hi g hg), hq f h.lt h.pf⟩
/-- one more is appended -/
theorem FlowsV.push {P : Nat → Prop} {w : World} {f : Nat} {vs : Nat → Value} {F : Nat → List Int} (h : FlowsV P w f vs F) {i : Nat} (hi : i < 128) (x : Int) (hl : (F i).length ≤ 1000) (hf : ∀ j, w.heap.size ≤ j → P j) :
    ∃ v3 w3, (Builtin.append_ #[50, 50] 50 #[vs i, .slice (some ⟨w.heap.size, 0, none⟩) 1 1]).run Tryz.prog (w.alloc (.cells #[.int .i64 x] 2)) = .ok v3 w3 ∧
      w3.cell? ⟨f, i, none⟩ = some (vs i) ∧ w3.frozen? ⟨f, i, none⟩ = false ∧ (∃ p n c, v3 = .slice p n c) ∧ FlowsV P (w3.setCell ⟨f, i, none⟩ v3) f (updF vs i v3) (updF F i (F i ++ [x])) ∧ Kp P w (w3.setCell ⟨f, i, none⟩ v3) := by
  have hba : Below w.heap.size w (w.alloc (.cells #[.int .i64 x] 2)) := (Below.refl _ _).alloc (Nat.le_refl _) _
  have h1 := h.kept hba
  obtain ⟨v3, w3, hr, ho, hg, hv⟩ := app1_run 50 2 1 8 _ Tryz.underlying50 info2 (by rfl) (by omega) (by omega) (w.alloc (.cells #[.int .i64 x] 2)) (vs i) (F i).length ((F i).map (Value.int .i64)) (h1.row i hi) ⟨w.heap.size, 0, none⟩ [.int .i64 x] rfl
    (fun j u hu => by
      match j with
      | 0 => injection hu with hu; rw [← hu]; exact obj_cell (heap_alloc_new w _) rfl
      | j + 1 => simp at hu) (fun u hu => by obtain rfl := List.mem_singleton.1 hu; rfl) (by omega)
  have hsz : (w.alloc (.cells #[.int .i64 x] 2)).heap.size = w.heap.size + 1 := by simp
  have hlt1 := h1.lt
  have hobj3 : w3.heap[f]? = some (.cells ((List.range 128).map vs).toArray 67 (0, 0)) := (hg.block f hlt1 (fun e => h.ne i hi e.symm)).trans h1.obj
  have hn3 : v3.ownBlock ≠ some f := fun e => by
    rcases hv f e with h4 | h4
    · exact h.ne i hi h4
    · omega
  have hap3 : ∀ j, j < 128 → j ≠ i → ∀ g, v3.ownBlock = some g → (vs j).ownBlock ≠ some g := fun j hj hji g hg1 hg2 => by
    rcases hv g hg1 with h4 | h4
    · exact h.ap i j hi hj (Ne.symm hji) g h4 hg2
    · have := (World.ownsRow.lt (h.row j hj) g hg2).2; omega
  obtain ⟨p, cp, hv3, -, -, -⟩ := orow_shape ho
  refine ⟨v3, w3, hr, obj_cell hobj3 (by simp [hi]), obj_free hobj3 i, ⟨p, _, cp, hv3⟩, ⟨?_, fun j hj => ?_, fun j hj => ?_, fun j k hj hk hjk g hg1 => ?_, fun j hj g hg1 => ?_, ?_⟩, ?_⟩
  · rw [← map_updF vs i v3 128 hi]; exact obj_set hobj3 i v3
  · unfold updF
    by_cases hji : j = i
    · subst hji
      rw [if_pos rfl, if_pos rfl, List.length_append, List.map_append]
      exact orow_kept ho fun g hg1 => obj_other _ (fun e => hn3 (by rw [hg1, e]))
    · rw [if_neg hji, if_neg hji]
      refine orow_kept (orow_kept (h1.row j hj) (w' := w3) fun g hg1 => hg.block g (World.ownsRow.lt (h1.row j hj) g hg1).2 (fun e => h.ap j i hj hi hji g hg1 e.symm)) fun g hg1 => obj_other _ (fun e => h.ne j hj (by rw [hg1, e]))
  · unfold updF; split
    · exact hn3
    · exact h.ne j hj
  · unfold updF at hg1 ⊢
    by_cases hji : j = i
    · subst hji
      rw [if_pos rfl] at hg1
      rw [if_neg (Ne.symm hjk)]
      exact hap3 k hk (Ne.symm hjk) g hg1
    · rw [if_neg hji] at hg1
      by_cases hki : k = i
      · subst hki
        rw [if_pos rfl]
        exact fun e => hap3 j hj hji g e hg1
      · rw [if_neg hki]
        exact h.ap j k hj hk hjk g hg1
  · unfold updF at hg1
    split at hg1
    · rcases hv g hg1 with h4 | h4
      · exact h.own i hi g h4
      · exact hf g (by omega)
    · exact h.own j hj g hg1
  · exact h.pf
  · exact (((Kp.refl _ w).alloc _).grown hg fun g hg1 => .inl (h.own i hi g hg1)).setCell (.inl h.pf) v3
theorem FlowsV.drew {P : Nat → Prop} {w : World} {f : Nat} {vs : Nat → Value} {F : Nat → List Int} (h : FlowsV P w f vs F) : FlowsV P w.drew f vs F := h.kept (Below.refl _ _).drew

set_option maxHeartbeats 4000000 in
set_option maxRecDepth 100000 in
theorem pay_any (P : Nat → Prop) (f m1 m2 c : Nat) (a : Int) (F : Nat → List Int) (w : World) (h : FlowsIn P w f F) (hm1 : m1 < 16) (hm2 : m2 < 16) (hc : c < 8) (ha : 0 ≤ a) (ha2 : a ≤ 9223372036854775807)
    (hl : ∀ i, (F i).length ≤ 500) (hf' : ∀ j, w.heap.size ≤ j → P j) :
    Calls Tryz.prog 27 #[.pointer (some ⟨f, 0, none⟩), .int .i64 (m1 : Int), .int .i64 (m2 : Int), .int .i64 (c : Int), .int .i64 a] w fun e w' => e = .returned (.tuple #[]) ∧
      FlowsIn P w' f (updF (updF F (m1 * 8 + c) (F (m1 * 8 + c) ++ [-a])) (m2 * 8 + c) (updF F (m1 * 8 + c) (F (m1 * 8 + c) ++ [-a]) (m2 * 8 + c) ++ [a])) ∧ Kp P w w' := by
  obtain ⟨vs, hf⟩ := h
  have hi1 : m1 * 8 + c < 128 := by omega
  have hi2 : m2 * 8 + c < 128 := by omega
  have c1' : w.cell? ⟨f, m1 * 8 + c, none⟩ = some (vs (m1 * 8 + c)) := hf.cell hi1
  have c1 : w.drew.cell? ⟨f, m1 * 8 + c, none⟩ = some (vs (m1 * 8 + c)) := hf.drew.cell hi1
  have hfl := hf.lt
  have c1a : ∀ o, (w.drew.alloc o).cell? ⟨f, m1 * 8 + c, none⟩ = some (vs (m1 * 8 + c)) := fun o => by rw [World.cell?_alloc_lt _ _ _ (by exact hfl)]; exact c1
  obtain ⟨v3, w3, hr3, c3, z3, ⟨p3, n3, k3, rfl⟩, hF3, hb3⟩ := hf.drew.push hi1 (-a) (by have := hl (m1 * 8 + c); omega) hf'
  obtain ⟨F1, hF1⟩ : ∃ F1, F1 = updF F (m1 * 8 + c) (F (m1 * 8 + c) ++ [-a]) := ⟨_, rfl⟩
  rw [← hF1] at hF3 ⊢
  have hl1 : ∀ i, (F1 i).length ≤ 501 := fun i => by
    rw [hF1]; unfold updF; split
    · rw [List.length_append, List.length_singleton]; have := hl (m1 * 8 + c); omega
    · have := hl i; omega
  obtain ⟨w4, hw4⟩ : ∃ w4, w4 = w3.setCell ⟨f, m1 * 8 + c, none⟩ (.slice p3 n3 k3) := ⟨_, rfl⟩
  rw [← hw4] at hF3 hb3
  obtain ⟨vs1, hvs1⟩ : ∃ vs1, vs1 = updF vs (m1 * 8 + c) (.slice p3 n3 k3) := ⟨_, rfl⟩
  rw [← hvs1] at hF3
  have c4' : w4.cell? ⟨f, m2 * 8 + c, none⟩ = some (vs1 (m2 * 8 + c)) := hF3.cell hi2
  have c4 : w4.drew.cell? ⟨f, m2 * 8 + c, none⟩ = some (vs1 (m2 * 8 + c)) := hF3.drew.cell hi2
  have hfl4 := hF3.lt
  have c4a : ∀ o, (w4.drew.alloc o).cell? ⟨f, m2 * 8 + c, none⟩ = some (vs1 (m2 * 8 + c)) := fun o => by rw [World.cell?_alloc_lt _ _ _ (by exact hfl4)]; exact c4
  obtain ⟨v5, w5, hr5, c5, z5, ⟨p5, n5, k5, rfl⟩, hF5, hb5⟩ := hF3.drew.push hi2 a (by have := hl1 (m2 * 8 + c); omega) (fun j hj => hf' j (Nat.le_trans hb3.size hj))
  have z1 : (m1 : Int) < 16 := by omega
  have z2 : (m2 : Int) < 16 := by omega
  have zc : (c : Int) < 8 := by omega
  have hwr : IntKind.i64.wrap (-a) = -a := by rw [IntKind.wrap_i64] <;> omega
  have hfin : FlowsIn P (w5.setCell ⟨f, m2 * 8 + c, none⟩ (.slice p5 n5 k5)) f (updF F1 (m2 * 8 + c) (F1 (m2 * 8 + c) ++ [a])) ∧ Kp P w (w5.setCell ⟨f, m2 * 8 + c, none⟩ (.slice p5 n5 k5)) := ⟨⟨_, hF5⟩, by
    have e1 : Kp P w w4 := ⟨hb3.os, hb3.tape, hb3.output, hb3.size, hb3.block⟩
    exact e1.trans ⟨hb5.os, hb5.tape, hb5.output, hb5.size, hb5.block⟩⟩
  generalize vs (m1 * 8 + c) = x1 at *
  generalize vs1 (m2 * 8 + c) = x2 at *
  replace hfin := Lib.hid hfin
  replace hr3 := Lib.hid hr3
  replace hr5 := Lib.hid hr5
  replace hw4 := Lib.hid hw4
  clear hF5 hb5 hF3 hb3 hf hl1 hl hvs1 hF1
  go_enter Tryz.func27, Tryz.ntmps27
  go_wp2_with fail
  go_region_law (first | (refine step_app rfl _ _ _ _ rfl _ _ _ _ rfl rfl hr3.out ?_))
  all_goals rw [← hw4.out]
  all_goals go_wp2_with fail
  all_goals (go_region_law (first | (refine step_app rfl _ _ _ _ rfl _ _ _ _ rfl rfl hr5.out ?_)))
  all_goals
    go_wp2_with fail
    go_end0
    exact ⟨rfl, hfin.out⟩
end Go.Proofs.YthocnlalahknjaaGreat.Dd
namespace Go.Proofs.YthocnlalahknjaaGreat.Dd
open Go.RowKit Go.Maps
set_option linter.unusedVariables false

theorem orow_seq {w : World} {p : Option Addr} {n cap : Nat} {l : List Int} (h : w.ownsRow 0 2 1 (.slice p n cap) l.length (l.map (Value.int .i64))) (hn : n = l.length) (ha : ∀ x ∈ l, Amt x) (hl : l.length ≤ 1000000) : Seq64 w p n l := by
  refine ⟨hn.symm, fun i => ?_, by omega, ?_⟩
  · rw [List.getD_eq_getElem?_getD]
    cases hi : l[i]? with
    | none => exact ⟨by decide, by decide⟩
    | some x => exact ha x (List.mem_of_getElem? hi)
  · by_cases h0 : n = 0
    · exact .inl h0
    · obtain ⟨g, c1, cur, e1, _⟩ := orow_some h (by omega)
      injection e1 with e1 _ _
      subst e1
      refine .inr ⟨g, 0, rfl, (World.ownsRow.lt h g rfl).2, fun i hi => ?_⟩
      rw [Nat.zero_add]
      refine orow_cell h rfl ?_
      rw [List.getElem?_map, List.getD_eq_getElem?_getD, List.getElem?_eq_getElem (by omega)]; rfl
theorem info50 : (Tryz.prog.info? 50).map (fun i => (i.zero, i.size, i.bytes)) = some (some (.slice none 0 0), 1, 24) := by kernel_rfl
def nils (n : Nat) : Array Value := madeCells #[Value.slice none 0 0] n
theorem nils_eq (n : Nat) : nils n = ((List.range n).map fun _ => Value.slice none 0 0).toArray := by
  apply Array.ext
  · simp [nils, size_madeCells]
  · intro i h1 h2
    simp [nils, madeCells, Nat.mod_one]
theorem make_nets (n : Nat) (hn : n ≤ 1000) (w : World) :
    (Instr.makeSlice 28 (.int .i64 (n : Int)) (.int .i64 (n : Int))).run Tryz.prog w = .ok (.slice (some ⟨w.heap.size, 0, none⟩) n n) (w.alloc (.cells (nils n) 50)) := by
  obtain ⟨i0, hi, hz0, hz1, hz2⟩ := info_parts info50
  have hb : (i0.bytes : Int) * (n : Int) ≤ 281474976710656 := by rw [hz2]; omega
  have hr := run_make (P := Tryz.prog) w 28 50 i0 _ Tryz.underlying28 hi hz0 .i64 .i64 n n (by omega) (by omega) hb (by omega)
  simp only [Int.toNat_natCast, hz1, Nat.mul_one] at hr
  exact hr

/-- a member's nets -/
def netRow (F : Nat → List Int) (nc m : Nat) : List Int := (List.range nc).map fun c => sumL (F (m * 8 + c))
def netsL (F : Nat → List Int) (nm nc : Nat) : List (List Int) := (List.range nm).map (netRow F nc)
def fitB (x : Int) : Bool := decide (-9223372036854775808 ≤ x) && decide (x ≤ 9223372036854775807)
theorem fitB_iff {x : Int} : fitB x = true ↔ Amt x := by unfold fitB Amt; simp
/-- is one of the nets no amount? -/
def overF (F : Nat → List Int) (nm nc : Nat) : Bool := (List.range nm).any fun m => (List.range nc).any fun c => !fitB (sumL (F (m * 8 + c)))
/-- rows of amounts that stand in a row -/
structure OB (w wr : World) (g nm nc k : Nat) (rs : Nat → Nat) (R : Nat → List Int) : Prop where
  obj : wr.heap[g]? = some (.cells ((List.range nm).map fun i => if i < k then Value.slice (some ⟨rs i, 0, none⟩) nc nc else Value.slice none 0 0).toArray 50 (0, 0))
  row : ∀ i, i < k → YthocnlalahknjaaGreat.IRow 2 wr (rs i) (R i)
  lo : w.heap.size ≤ g
  rlo : ∀ i, i < k → w.heap.size ≤ rs i
  ne : ∀ i, i < k → rs i ≠ g
  bl : Below w.heap.size w wr
theorem OB.kept {w wr w' : World} {g nm nc k : Nat} {rs : Nat → Nat} {R : Nat → List Int} (h : OB w wr g nm nc k rs R) (hb : Below wr.heap.size wr w') : OB w w' g nm nc k rs R :=
  ⟨(hb.block g (obj_lt h.obj)).trans h.obj, fun i hi => (h.row i hi).kept hb, h.lo, h.rlo, h.ne, h.bl.trans (hb.mono h.bl.size)⟩
/-- a cell of another block is written -/
theorem OB.set {w wr : World} {g nm nc k : Nat} {rs : Nat → Nat} {R : Nat → List Int} (h : OB w wr g nm nc k rs R) (r j : Nat) (v : Value) (hr : r ≠ g) (hrs : ∀ i, i < k → rs i ≠ r) (hlo : w.heap.size ≤ r) : OB w (wr.setCell ⟨r, j, none⟩ v) g nm nc k rs R :=
  ⟨(obj_other _ (Ne.symm hr)).trans h.obj, fun i hi => (h.row i hi).other (hrs i hi) v, h.lo, h.rlo, h.ne, h.bl.setCell hlo v⟩
theorem OB.cell {w wr : World} {g nm nc k : Nat} {rs : Nat → Nat} {R : Nat → List Int} (h : OB w wr g nm nc k rs R) {i : Nat} (hi : i < nm) : wr.cell? ⟨g, i, none⟩ = some (if i < k then Value.slice (some ⟨rs i, 0, none⟩) nc nc else Value.slice none 0 0) :=
  obj_cell h.obj (by simp [hi])
/-- the next row's place -/
theorem OB.put {w wr : World} {g nm nc k : Nat} {rs : Nat → Nat} {R : Nat → List Int} (h : OB w wr g nm nc k rs R) (hk : k < nm) (r : Nat) (l : List Int) (hI : YthocnlalahknjaaGreat.IRow 2 wr r l) (hrg : r ≠ g) (hlo : w.heap.size ≤ r) :
    OB w (wr.setCell ⟨g, k, none⟩ (.slice (some ⟨r, 0, none⟩) nc nc)) g nm nc (k + 1) (updF rs k r) (updF R k l) := by
  refine ⟨?_, fun i hi => ?_, h.lo, fun i hi => ?_, fun i hi => ?_, h.bl.setCell h.lo _⟩
  · rw [obj_set h.obj k _]
    congr 2
    rw [map_updF _ k _ nm hk]
    congr 1
    apply List.map_congr_left
    intro i hi
    unfold updF
    by_cases hik : i = k
    · subst hik; simp
    · rw [if_neg hik, if_neg hik]
      show (if i < k then Value.slice (some ⟨rs i, 0, none⟩) nc nc else Value.slice none 0 0) = _
      by_cases h2 : i < k
      · rw [if_pos h2, if_pos (by omega)]
      · rw [if_neg h2, if_neg (by omega)]
  · unfold updF
    by_cases hik : i = k
    · rw [if_pos hik, if_pos hik]; exact hI.other hrg _
    · rw [if_neg hik, if_neg hik]; exact (h.row i (by omega)).other (h.ne i (by omega)) _
  · unfold updF; split
    · exact hlo
    · exact h.rlo i (by omega)
  · unfold updF; split
    · exact hrg
    · exact h.ne i (by omega)
/-- a new row of zeros, in the next place -/
theorem OB.next {w wr : World} {g nm nc k : Nat} {rs : Nat → Nat} {R : Nat → List Int} (h : OB w wr g nm nc k rs R) (hk : k < nm) :
    OB w ((wr.setCell ⟨g, k, none⟩ (.slice (some ⟨wr.heap.size, 0, none⟩) nc nc)).alloc (.cells (zeros nc) 2)) g nm nc (k + 1) (updF rs k wr.heap.size) (updF R k (List.replicate nc 0)) ∧ (∀ i, i < k → updF rs k wr.heap.size i ≠ updF rs k wr.heap.size k) := by
  have hsz : (wr.setCell ⟨g, k, none⟩ (.slice (some ⟨wr.heap.size, 0, none⟩) nc nc)).heap.size = wr.heap.size := by simp [World.setCell]
  have hgl := obj_lt h.obj
  have hba : Below wr.heap.size (wr.setCell ⟨g, k, none⟩ (.slice (some ⟨wr.heap.size, 0, none⟩) nc nc)) ((wr.setCell ⟨g, k, none⟩ (.slice (some ⟨wr.heap.size, 0, none⟩) nc nc)).alloc (.cells (zeros nc) 2)) := (Below.refl _ _).alloc (by omega) _
  refine ⟨⟨?_, fun i hi => ?_, h.lo, fun i hi => ?_, fun i hi => ?_, ?_⟩, fun i hi => ?_⟩
  · rw [hba.block g hgl, obj_set h.obj k _]
    congr 2
    rw [map_updF _ k _ nm hk]
    congr 1
    apply List.map_congr_left
    intro i hi
    unfold updF
    by_cases hik : i = k
    · subst hik; simp
    · rw [if_neg hik, if_neg hik]
      show (if i < k then Value.slice (some ⟨rs i, 0, none⟩) nc nc else Value.slice none 0 0) = _
      by_cases h2 : i < k
      · rw [if_pos h2, if_pos (by omega)]
      · rw [if_neg h2, if_neg (by omega)]
  · unfold updF
    by_cases hik : i = k
    · rw [if_pos hik, if_pos hik]
      have := YthocnlalahknjaaGreat.IRow.made 2 (wr.setCell ⟨g, k, none⟩ (.slice (some ⟨wr.heap.size, 0, none⟩) nc nc)) nc
      rw [hsz] at this
      exact this
    · rw [if_neg hik, if_neg hik]; exact ((h.row i (by omega)).other (h.ne i (by omega)) _).alloc _
  · unfold updF; split
    · exact h.bl.size
    · exact h.rlo i (by omega)
  · unfold updF; split
    · omega
    · exact h.ne i (by omega)
  · exact (h.bl.setCell h.lo _).trans ((hba.mono h.bl.size))
  · unfold updF
    rw [if_neg (by omega), if_pos rfl]
    have := (h.row i hi).lt
    omega
/-- a cell of the last row is written -/
theorem OB.put1 {w wr : World} {g nm nc k : Nat} {rs : Nat → Nat} {R : Nat → List Int} (h : OB w wr g nm nc (k + 1) rs R) (hd : ∀ i, i < k → rs i ≠ rs k) (j : Nat) (x : Int) :
    OB w (wr.setCell ⟨rs k, j, none⟩ (.int .i64 x)) g nm nc (k + 1) rs (updF R k ((R k).set j x)) := by
  refine ⟨(obj_other _ (Ne.symm (h.ne k (by omega)))).trans h.obj, fun i hi => ?_, h.lo, h.rlo, h.ne, h.bl.setCell (h.rlo k (by omega)) _⟩
  unfold updF
  by_cases hik : i = k
  · subst hik; rw [if_pos rfl]; exact (h.row i (by omega)).set x
  · rw [if_neg hik]; exact (h.row i (by omega)).other (hd i (by omega)) _
theorem updF_updF {α : Type} (f : Nat → α) (k : Nat) (x y : α) : updF (updF f k x) k y = updF f k y := by
  funext i; unfold updF; split <;> rfl
theorem updF_same {α : Type} (f : Nat → α) (k : Nat) (x : α) : updF f k x k = x := by unfold updF; rw [if_pos rfl]
theorem OB.nets {w wr : World} {g nm nc : Nat} {rs : Nat → Nat} {R : Nat → List Int} {F : Nat → List Int} (h : OB w wr g nm nc nm rs R) (hR : ∀ i, i < nm → R i = netRow F nc i) (hf : overF F nm nc = false) (hnc : nc ≤ 8) (cap : Nat) : NSeq wr (.slice (some ⟨g, 0, none⟩) nm cap) (netsL F nm nc) := by
  have hl : (netsL F nm nc).length = nm := by simp [netsL]
  refine ⟨_, cap, by rw [hl], .inr ⟨g, 0, rfl, obj_lt h.obj, fun i hi => ?_⟩⟩
  rw [hl] at hi
  have e : (netsL F nm nc)[i]'(by rw [hl]; exact hi) = netRow F nc i := by simp [netsL]
  rw [e]
  have hrl : (netRow F nc i).length = nc := by simp [netRow]
  refine ⟨some ⟨rs i, 0, none⟩, nc, ?_, ?_⟩
  · rw [Nat.zero_add, h.cell hi, if_pos hi, hrl]
  · have hI := h.row i hi
    rw [hR i hi] at hI
    refine hI.seq rfl (by rw [hrl]; omega) fun c => ?_
    rw [List.getD_eq_getElem?_getD]
    cases hc : (netRow F nc i)[c]? with
    | none => exact ⟨by decide, by decide⟩
    | some x =>
      unfold overF at hf
      rw [List.any_eq_false] at hf
      have h1 := hf i (List.mem_range.2 hi)
      rw [Bool.not_eq_true, List.any_eq_false] at h1
      unfold netRow at hc
      rw [List.getElem?_map] at hc
      cases hc2 : (List.range nc)[c]? with
      | none => rw [hc2] at hc; cases hc
      | some c' =>
        rw [hc2] at hc
        injection hc with hc
        subst hc
        have := h1 c' (List.mem_of_getElem? hc2)
        rw [← fitB_iff]
        simpa using this

set_option maxHeartbeats 4000000 in
set_option maxRecDepth 100000 in
theorem nets_any (P : Nat → Prop) (f nm nc : Nat) (F : Nat → List Int) (w : World) (h : FlowsIn P w f F) (h1 : 1 ≤ nm) (h2 : nm ≤ 16) (h3 : 1 ≤ nc) (h4 : nc ≤ 8) (hamt : ∀ i, ∀ x ∈ F i, Amt x) (hl : ∀ i, (F i).length ≤ 1000) :
    Calls Tryz.prog 28 #[.pointer (some ⟨f, 0, none⟩), .int .i64 (nm : Int), .int .i64 (nc : Int)] w fun e w' => Below w.heap.size w w' ∧
      ((overF F nm nc = true ∧ e = .returned (.tuple #[.slice none 0 0, .int .i64 3])) ∨ (overF F nm nc = false ∧ ∃ u, e = .returned (.tuple #[u, .int .i64 0]) ∧ NSeq w' u (netsL F nm nc))) := by
  obtain ⟨vs, hF⟩ := h
  have mk28 := make_nets nm (by omega)
  have mk50 := make22 nc (by omega)
  have hfl := hF.lt
  have hOB0 : OB w (w.alloc (.cells (nils nm) 50)) w.heap.size nm nc 0 (fun _ => 0) (fun _ => []) := ⟨by rw [heap_alloc_new, nils_eq]; rfl, fun i hi => by omega, Nat.le_refl _, fun i hi => by omega, fun i hi => by omega, (Below.refl _ _).alloc (Nat.le_refl _) _⟩
  replace hF := Lib.hid hF
  replace hamt := Lib.hid hamt
  replace hl := Lib.hid hl
  replace hOB0 := Lib.hid hOB0
  generalize nils nm = Z at *
  generalize hZ2 : zeros nc = Z2 at *
  replace hZ2 := Lib.hid hZ2
  go_enter Tryz.func28, Tryz.ntmps28
  go_wp2_with fail
  go_loopw [17] (fun i wr => ∃ k : Nat, k ≤ nm ∧ i = .int .i64 (k : Int) ∧ Hid (∃ rs R, OB w wr w.heap.size nm nc k rs R ∧ (∀ i, i < k → R i = netRow F nc i ∧ ∀ c, c < nc → Amt (sumL (F (i * 8 + c)))))) (fun i _ => nm - (intOf i).toNat)
  case atStart => exact ⟨0, by omega, rfl, Lib.hid ⟨_, _, hOB0.out, fun i hi => by omega⟩⟩
  case round =>
    obtain ⟨k, hk, rfl, hT⟩ := hrel
    obtain ⟨rs, R, hO, hR⟩ := hT.out
    have hgl : w.heap.size < wr.heap.size := obj_lt hO.obj
    by_cases hkn : k < nm
    · have ck := hO.cell hkn
      rw [if_neg (by omega)] at ck
      have fz0 := obj_free hO.obj k
      replace hO := Lib.hid hO
      replace hR := Lib.hid hR
      clear hT
      obtain ⟨hX, hdis⟩ := hO.out.next hkn
      rw [hZ2.out] at hX
      obtain ⟨W1, hW1⟩ : ∃ W1, W1 = (wr.setCell ⟨w.heap.size, k, none⟩ (.slice (some ⟨wr.heap.size, 0, none⟩) nc nc)).alloc (.cells Z2 2) := ⟨_, rfl⟩
      rw [← hW1] at hX
      obtain ⟨rs2, hrs2⟩ : ∃ rs2, rs2 = updF rs k wr.heap.size := ⟨_, rfl⟩
      have hrk : rs2 k = wr.heap.size := by rw [hrs2, updF_same]
      rw [← hrs2] at hX hdis
      obtain ⟨fk, hfk⟩ : ∃ fk : Nat → Int, fk = fun c => sumL (F (k * 8 + c)) := ⟨_, rfl⟩
      rw [← laidBy_zero fk] at hX
      obtain ⟨r, hr⟩ : ∃ r, r = wr.heap.size := ⟨_, rfl⟩
      have ckX := hX.cell hkn
      rw [if_pos (by omega), hrk] at ckX
      replace hX := Lib.hid hX
      replace hdis := Lib.hid hdis
      replace hrk := Lib.hid hrk
      replace hfk := Lib.hid hfk
      replace hrs2 := Lib.hid hrs2
      go_upto_region 6 with fail
      rw [← hW1]
      replace hW1 := Lib.hid hW1
      rw [← hr] at ckX ⊢
      replace hr := Lib.hid hr
      clear ck fz0
      go_wp2_with fail
      go_loopw [30] (fun i wq => ∃ j : Nat, j ≤ nc ∧ i = .int .i64 (j : Int) ∧ Hid (OB w wq w.heap.size nm nc (k + 1) rs2 (updF R k (laidBy fk nc j)) ∧ ∀ c, c < j → Amt (fk c))) (fun i _ => nc - (intOf i).toNat)
      case atStart => exact ⟨0, by omega, rfl, Lib.hid ⟨hX.out, fun c hc => by omega⟩⟩
      case round =>
        obtain ⟨j, hj, rfl, hS⟩ := hrel
        obtain ⟨hQ, hQa⟩ := hS.out
        have hrl : rs2 k = r := by rw [hrk.out, hr.out]
        by_cases hjn : j < nc
        · have hi : k * 8 + j < 128 := by omega
          have hFq := hF.out.kept hQ.bl
          have cf := hFq.cell hi
          have hrow := hFq.row (k * 8 + j) hi
          obtain ⟨p, cap, hpv, -, -, -⟩ := orow_shape hrow
          rw [hpv] at cf hrow
          have hsq := orow_seq hrow rfl (hamt.out (k * 8 + j)) (by have := hl.out (k * 8 + j); omega)
          have hsum := sum_any p (F (k * 8 + j)).length cap _ wr hsq
          have hfkj : fk j = sumL (F (k * 8 + j)) := by rw [hfk.out]
          rw [← hfkj] at hsum
          generalize hnn : (F (k * 8 + j)).length = n at *
          have hflq : f < wr.heap.size := hFq.lt
          have hfl5 : f ≠ r := by
            intro e
            have := hQ.rlo k (by omega)
            omega
          replace hsum := Lib.hid hsum
          replace hFq := Lib.hid hFq
          replace hfkj := Lib.hid hfkj
          replace hQ := Lib.hid hQ
          replace hQa := Lib.hid hQa
          clear hrow hsq hpv hnn
          by_cases hfit : Amt (fk j)
          · have hV : fitV (fk j) = fk j := by unfold Amt at hfit; unfold fitV; rw [if_pos hfit]
            have hE : fitE (fk j) = 0 := by unfold Amt at hfit; unfold fitE; rw [if_pos hfit]
            have hsum2 := hsum.out
            rw [hV, hE] at hsum2
            replace hsum2 := Lib.hid hsum2
            clear hsum hV hE hS
            obtain ⟨y, hy⟩ : ∃ y, y = fk j := ⟨_, rfl⟩
            rw [← hy] at hsum2
            replace hy := Lib.hid hy
            replace hfit := Lib.hid hfit
            go_upto_region 12 with (go_at_call 19; (with_reducible refine hsum2.out.mono ?_); rintro e w5 ⟨rfl, hb5⟩; replace hb5 := Lib.hid hb5)
            have hQ5 := hQ.out.kept hb5.out
            have d0 := hQ5.cell hkn
            rw [if_pos (by omega), hrl] at d0
            have hI := hQ5.row k (by omega)
            rw [updF_same, hrl] at hI
            have d1 := hI.cell (i := j) (by rw [laidBy_length]; exact hjn)
            have d2 := hI.free (i := j)
            have hnx := hQ5.put1 hdis.out j y
            rw [updF_same, updF_updF, hy.out, laidBy_set fk nc j hjn, ← hy.out, hrl] at hnx
            generalize (laidBy fk nc j).getD j 0 = y0 at d1
            replace hnx := Lib.hid hnx
            replace hQ5 := Lib.hid hQ5
            replace hI := Lib.hid hI
            go_wp2_with fail
            go_roundw
            case rel => exact ⟨j + 1, by omega, by go_num, Lib.hid ⟨hnx.out, fun c hc => by
              by_cases hcj : c = j
              · subst hcj; exact hfit.out
              · exact hQa.out c (by omega)⟩⟩
            case measure => simp [intOf]; omega
          · have hV : fitV (fk j) = 0 := by unfold Amt at hfit; unfold fitV; rw [if_neg hfit]
            have hE : fitE (fk j) = 3 := by unfold Amt at hfit; unfold fitE; rw [if_neg hfit]
            have hsum2 := hsum.out
            rw [hV, hE] at hsum2
            replace hsum2 := Lib.hid hsum2
            have hov : overF F nm nc = true := by
              unfold overF
              rw [List.any_eq_true]
              refine ⟨k, List.mem_range.2 hkn, ?_⟩
              rw [List.any_eq_true]
              refine ⟨j, List.mem_range.2 hjn, ?_⟩
              rw [← hfkj.out, Bool.not_eq_true', ← Bool.not_eq_true, fitB_iff]
              exact hfit
            replace hov := Lib.hid hov
            clear hsum hV hE hS
            replace hfit := Lib.hid hfit
            go_wp2_with (go_at_call 19; (with_reducible refine hsum2.out.mono ?_); rintro e w5 ⟨rfl, hb5⟩; replace hb5 := Lib.hid hb5)
            go_ret2
            exact ⟨(hQ.out.kept hb5.out).bl, .inl ⟨hov.out, rfl⟩⟩
        · obtain rfl : j = nc := by omega
          have hjz : ¬ (j : Int) < (j : Int) := by omega
          have hnr : laidBy fk j j = netRow F j k := by
            rw [hfk.out]; unfold laidBy netRow
            apply List.map_congr_left
            intro c hc
            rw [if_pos (List.mem_range.1 hc)]
          rw [hnr] at hQ
          have hR2 : ∀ i, i < k + 1 → updF R k (netRow F j k) i = netRow F j i ∧ ∀ c, c < j → Amt (sumL (F (i * 8 + c))) := fun i hi => by
            by_cases hik : i = k
            · subst hik
              refine ⟨updF_same _ _ _, fun c hc => ?_⟩
              have := hQa c hc
              rwa [hfk.out] at this
            · unfold updF; rw [if_neg hik]; exact hR.out i (by omega)
          replace hQ := Lib.hid hQ
          replace hR2 := Lib.hid hR2
          clear hS hQa
          go_wp2_with fail
          go_roundw
          case rel => exact ⟨k + 1, by omega, by go_num, Lib.hid ⟨rs2, _, hQ.out, hR2.out⟩⟩
          case measure => simp [intOf]; omega
    · obtain rfl : k = nm := by omega
      have hkz : ¬ (k : Int) < (k : Int) := by omega
      have hov : overF F k nc = false := by
        unfold overF
        rw [List.any_eq_false]
        intro m hm
        rw [Bool.not_eq_true, List.any_eq_false]
        intro c hc
        have := (hR m (List.mem_range.1 hm)).2 c (List.mem_range.1 hc)
        rw [← fitB_iff] at this
        simp [this]
      have hN := hO.nets (fun i hi => (hR i hi).1) hov h4 k
      have hbl := hO.bl
      replace hN := Lib.hid hN
      replace hbl := Lib.hid hbl
      replace hov := Lib.hid hov
      clear hO hR hT
      go_wp2_with fail
      go_ret2
      exact ⟨hbl.out, .inr ⟨hov.out, _, rfl, hN.out⟩⟩
end Go.Proofs.YthocnlalahknjaaGreat.Dd
