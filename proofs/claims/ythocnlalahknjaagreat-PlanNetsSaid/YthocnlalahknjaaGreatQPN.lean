/- The contract of nets: what members get of each currency, less what they pay. -/
import Derived.Test.YthocnlalahknjaaGreatQPM
namespace Go.Proofs.YthocnlalahknjaaGreat.Dd
open Go.RowKit Go.Maps
set_option linter.unusedVariables false

theorem orow_seq {w : World} {p : Option Addr} {n cap : Nat} {l : List Int} (h : w.ownsRow 0 2 1 (.slice p n cap) l.length (l.map (Value.int .i64))) (hn : n = l.length) (ha : ∀ x ∈ l, Amt x) (hl : l.length ≤ 1000000) : Seq64 w p n l := by
  refine ⟨hn.symm, fun i => ?_, by omega, ?_⟩
  · rw [List.getD_eq_getElem?_getD]
    cases hi : l[i]? with
    | none => exact ⟨by decide, by decide⟩
    | some x => exact ha x (List.mem_of_getElem? hi)
  · by_cases h0 : n = 0
    · exact .inl h0
    · obtain ⟨g, c1, cur, e1, _⟩ := orow_some h (by omega)
      injection e1 with e1 _ _
      subst e1
      refine .inr ⟨g, 0, rfl, (World.ownsRow.lt h g rfl).2, fun i hi => ?_⟩
      rw [Nat.zero_add]
      refine orow_cell h rfl ?_
      rw [List.getElem?_map, List.getD_eq_getElem?_getD, List.getElem?_eq_getElem (by omega)]; rfl
theorem info50 : (Tryz.prog.info? 50).map (fun i => (i.zero, i.size, i.bytes)) = some (some (.slice none 0 0), 1, 24) := by kernel_rfl
def nils (n : Nat) : Array Value := madeCells #[Value.slice none 0 0] n
theorem nils_eq (n : Nat) : nils n = ((List.range n).map fun _ => Value.slice none 0 0).toArray := by
  apply Array.ext
  · simp [nils, size_madeCells]
  · intro i h1 h2
    simp [nils, madeCells, Nat.mod_one]
theorem make_nets (n : Nat) (hn : n ≤ 1000) (w : World) :
    (Instr.makeSlice 28 (.int .i64 (n : Int)) (.int .i64 (n : Int))).run Tryz.prog w = .ok (.slice (some ⟨w.heap.size, 0, none⟩) n n) (w.alloc (.cells (nils n) 50)) := by
  obtain ⟨i0, hi, hz0, hz1, hz2⟩ := info_parts info50
  have hb : (i0.bytes : Int) * (n : Int) ≤ 281474976710656 := by rw [hz2]; omega
  have hr := run_make (P := Tryz.prog) w 28 50 i0 _ Tryz.underlying28 hi hz0 .i64 .i64 n n (by omega) (by omega) hb (by omega)
  simp only [Int.toNat_natCast, hz1, Nat.mul_one] at hr
  exact hr

/-- a member's nets -/
def netRow (F : Nat → List Int) (nc m : Nat) : List Int := (List.range nc).map fun c => sumL (F (m * 8 + c))
def netsL (F : Nat → List Int) (nm nc : Nat) : List (List Int) := (List.range nm).map (netRow F nc)
def fitB (x : Int) : Bool := decide (-9223372036854775808 ≤ x) && decide (x ≤ 9223372036854775807)
theorem fitB_iff {x : Int} : fitB x = true ↔ Amt x := by unfold fitB Amt; simp
/-- is one of the nets no amount? -/
def overF (F : Nat → List Int) (nm nc : Nat) : Bool := (List.range nm).any fun m => (List.range nc).any fun c => !fitB (sumL (F (m * 8 + c)))
/-- rows of amounts that stand in a row -/
structure OB (w wr : World) (g nm nc k : Nat) (rs : Nat → Nat) (R : Nat → List Int) : Prop where
  obj : wr.heap[g]? = some (.cells ((List.range nm).map fun i => if i < k then Value.slice (some ⟨rs i, 0, none⟩) nc nc else Value.slice none 0 0).toArray 50 (0, 0))
  row : ∀ i, i < k → YthocnlalahknjaaGreat.IRow 2 wr (rs i) (R i)
  lo : w.heap.size ≤ g
  rlo : ∀ i, i < k → w.heap.size ≤ rs i
  ne : ∀ i, i < k → rs i ≠ g
  bl : Below w.heap.size w wr
theorem OB.kept {w wr w' : World} {g nm nc k : Nat} {rs : Nat → Nat} {R : Nat → List Int} (h : OB w wr g nm nc k rs R) (hb : Below wr.heap.size wr w') : OB w w' g nm nc k rs R :=
  ⟨(hb.block g (obj_lt h.obj)).trans h.obj, fun i hi => (h.row i hi).kept hb, h.lo, h.rlo, h.ne, h.bl.trans (hb.mono h.bl.size)⟩
/-- a cell of another block is written -/
theorem OB.set {w wr : World} {g nm nc k : Nat} {rs : Nat → Nat} {R : Nat → List Int} (h : OB w wr g nm nc k rs R) (r j : Nat) (v : Value) (hr : r ≠ g) (hrs : ∀ i, i < k → rs i ≠ r) (hlo : w.heap.size ≤ r) : OB w (wr.setCell ⟨r, j, none⟩ v) g nm nc k rs R :=
  ⟨(obj_other _ (Ne.symm hr)).trans h.obj, fun i hi => (h.row i hi).other (hrs i hi) v, h.lo, h.rlo, h.ne, h.bl.setCell hlo v⟩
theorem OB.cell {w wr : World} {g nm nc k : Nat} {rs : Nat → Nat} {R : Nat → List Int} (h : OB w wr g nm nc k rs R) {i : Nat} (hi : i < nm) : wr.cell? ⟨g, i, none⟩ = some (if i < k then Value.slice (some ⟨rs i, 0, none⟩) nc nc else Value.slice none 0 0) :=
  obj_cell h.obj (by simp [hi])
/-- the next row's place -/
theorem OB.put {w wr : World} {g nm nc k : Nat} {rs : Nat → Nat} {R : Nat → List Int} (h : OB w wr g nm nc k rs R) (hk : k < nm) (r : Nat) (l : List Int) (hI : YthocnlalahknjaaGreat.IRow 2 wr r l) (hrg : r ≠ g) (hlo : w.heap.size ≤ r) :
    OB w (wr.setCell ⟨g, k, none⟩ (.slice (some ⟨r, 0, none⟩) nc nc)) g nm nc (k + 1) (updF rs k r) (updF R k l) := by
  refine ⟨?_, fun i hi => ?_, h.lo, fun i hi => ?_, fun i hi => ?_, h.bl.setCell h.lo _⟩
  · rw [obj_set h.obj k _]
    congr 2
    rw [map_updF _ k _ nm hk]
    congr 1
    apply List.map_congr_left
    intro i hi
    unfold updF
    by_cases hik : i = k
    · subst hik; simp
    · rw [if_neg hik, if_neg hik]
      show (if i < k then Value.slice (some ⟨rs i, 0, none⟩) nc nc else Value.slice none 0 0) = _
      by_cases h2 : i < k
      · rw [if_pos h2, if_pos (by omega)]
      · rw [if_neg h2, if_neg (by omega)]
  · unfold updF
    by_cases hik : i = k
    · rw [if_pos hik, if_pos hik]; exact hI.other hrg _
    · rw [if_neg hik, if_neg hik]; exact (h.row i (by omega)).other (h.ne i (by omega)) _
  · unfold updF; split
    · exact hlo
    · exact h.rlo i (by omega)
  · unfold updF; split
    · exact hrg
    · exact h.ne i (by omega)
/-- a new row of zeros, in the next place -/
theorem OB.next {w wr : World} {g nm nc k : Nat} {rs : Nat → Nat} {R : Nat → List Int} (h : OB w wr g nm nc k rs R) (hk : k < nm) :
    OB w ((wr.setCell ⟨g, k, none⟩ (.slice (some ⟨wr.heap.size, 0, none⟩) nc nc)).alloc (.cells (zeros nc) 2)) g nm nc (k + 1) (updF rs k wr.heap.size) (updF R k (List.replicate nc 0)) ∧ (∀ i, i < k → updF rs k wr.heap.size i ≠ updF rs k wr.heap.size k) := by
  have hsz : (wr.setCell ⟨g, k, none⟩ (.slice (some ⟨wr.heap.size, 0, none⟩) nc nc)).heap.size = wr.heap.size := by simp [World.setCell]
  have hgl := obj_lt h.obj
  have hba : Below wr.heap.size (wr.setCell ⟨g, k, none⟩ (.slice (some ⟨wr.heap.size, 0, none⟩) nc nc)) ((wr.setCell ⟨g, k, none⟩ (.slice (some ⟨wr.heap.size, 0, none⟩) nc nc)).alloc (.cells (zeros nc) 2)) := (Below.refl _ _).alloc (by omega) _
  refine ⟨⟨?_, fun i hi => ?_, h.lo, fun i hi => ?_, fun i hi => ?_, ?_⟩, fun i hi => ?_⟩
  · rw [hba.block g hgl, obj_set h.obj k _]
    congr 2
    rw [map_updF _ k _ nm hk]
    congr 1
    apply List.map_congr_left
    intro i hi
    unfold updF
    by_cases hik : i = k
    · subst hik; simp
    · rw [if_neg hik, if_neg hik]
      show (if i < k then Value.slice (some ⟨rs i, 0, none⟩) nc nc else Value.slice none 0 0) = _
      by_cases h2 : i < k
      · rw [if_pos h2, if_pos (by omega)]
      · rw [if_neg h2, if_neg (by omega)]
  · unfold updF
    by_cases hik : i = k
    · rw [if_pos hik, if_pos hik]
      have := YthocnlalahknjaaGreat.IRow.made 2 (wr.setCell ⟨g, k, none⟩ (.slice (some ⟨wr.heap.size, 0, none⟩) nc nc)) nc
      rw [hsz] at this
      exact this
    · rw [if_neg hik, if_neg hik]; exact ((h.row i (by omega)).other (h.ne i (by omega)) _).alloc _
  · unfold updF; split
    · exact h.bl.size
    · exact h.rlo i (by omega)
  · unfold updF; split
    · omega
    · exact h.ne i (by omega)
  · exact (h.bl.setCell h.lo _).trans ((hba.mono h.bl.size))
  · unfold updF
    rw [if_neg (by omega), if_pos rfl]
    have := (h.row i hi).lt
    omega
/-- a cell of the last row is written -/
theorem OB.put1 {w wr : World} {g nm nc k : Nat} {rs : Nat → Nat} {R : Nat → List Int} (h : OB w wr g nm nc (k + 1) rs R) (hd : ∀ i, i < k → rs i ≠ rs k) (j : Nat) (x : Int) :
    OB w (wr.setCell ⟨rs k, j, none⟩ (.int .i64 x)) g nm nc (k + 1) rs (updF R k ((R k).set j x)) := by
  refine ⟨(obj_other _ (Ne.symm (h.ne k (by omega)))).trans h.obj, fun i hi => ?_, h.lo, h.rlo, h.ne, h.bl.setCell (h.rlo k (by omega)) _⟩
  unfold updF
  by_cases hik : i = k
  · subst hik; rw [if_pos rfl]; exact (h.row i (by omega)).set x
  · rw [if_neg hik]; exact (h.row i (by omega)).other (hd i (by omega)) _
theorem updF_updF {α : Type} (f : Nat → α) (k : Nat) (x y : α) : updF (updF f k x) k y = updF f k y := by
  funext i; unfold updF; split <;> rfl
theorem updF_same {α : Type} (f : Nat → α) (k : Nat) (x : α) : updF f k x k = x := by unfold updF; rw [if_pos rfl]
theorem OB.nets {w wr : World} {g nm nc : Nat} {rs : Nat → Nat} {R : Nat → List Int} {F : Nat → List Int} (h : OB w wr g nm nc nm rs R) (hR : ∀ i, i < nm → R i = netRow F nc i) (hf : overF F nm nc = false) (hnc : nc ≤ 8) (cap : Nat) : NSeq wr (.slice (some ⟨g, 0, none⟩) nm cap) (netsL F nm nc) := by
  have hl : (netsL F nm nc).length = nm := by simp [netsL]
  refine ⟨_, cap, by rw [hl], .inr ⟨g, 0, rfl, obj_lt h.obj, fun i hi => ?_⟩⟩
  rw [hl] at hi
  have e : (netsL F nm nc)[i]'(by rw [hl]; exact hi) = netRow F nc i := by simp [netsL]
  rw [e]
  have hrl : (netRow F nc i).length = nc := by simp [netRow]
  refine ⟨some ⟨rs i, 0, none⟩, nc, ?_, ?_⟩
  · rw [Nat.zero_add, h.cell hi, if_pos hi, hrl]
  · have hI := h.row i hi
    rw [hR i hi] at hI
    refine hI.seq rfl (by rw [hrl]; omega) fun c => ?_
    rw [List.getD_eq_getElem?_getD]
    cases hc : (netRow F nc i)[c]? with
    | none => exact ⟨by decide, by decide⟩
    | some x =>
      unfold overF at hf
      rw [List.any_eq_false] at hf
      have h1 := hf i (List.mem_range.2 hi)
      rw [Bool.not_eq_true, List.any_eq_false] at h1
      unfold netRow at hc
      rw [List.getElem?_map] at hc
      cases hc2 : (List.range nc)[c]? with
      | none => rw [hc2] at hc; cases hc
      | some c' =>
        rw [hc2] at hc
        injection hc with hc
        subst hc
        have := h1 c' (List.mem_of_getElem? hc2)
        rw [← fitB_iff]
        simpa using this

set_option maxHeartbeats 4000000 in
set_option maxRecDepth 100000 in
theorem nets_any (P : Nat → Prop) (f nm nc : Nat) (F : Nat → List Int) (w : World) (h : FlowsIn P w f F) (h1 : 1 ≤ nm) (h2 : nm ≤ 16) (h3 : 1 ≤ nc) (h4 : nc ≤ 8) (hamt : ∀ i, ∀ x ∈ F i, Amt x) (hl : ∀ i, (F i).length ≤ 1000) :
    Calls Tryz.prog 28 #[.pointer (some ⟨f, 0, none⟩), .int .i64 (nm : Int), .int .i64 (nc : Int)] w fun e w' => Below w.heap.size w w' ∧
      ((overF F nm nc = true ∧ e = .returned (.tuple #[.slice none 0 0, .int .i64 3])) ∨ (overF F nm nc = false ∧ ∃ u, e = .returned (.tuple #[u, .int .i64 0]) ∧ NSeq w' u (netsL F nm nc))) := by
  obtain ⟨vs, hF⟩ := h
  have mk28 := make_nets nm (by omega)
  have mk50 := make22 nc (by omega)
  have hfl := hF.lt
  have hOB0 : OB w (w.alloc (.cells (nils nm) 50)) w.heap.size nm nc 0 (fun _ => 0) (fun _ => []) := ⟨by rw [heap_alloc_new, nils_eq]; rfl, fun i hi => by omega, Nat.le_refl _, fun i hi => by omega, fun i hi => by omega, (Below.refl _ _).alloc (Nat.le_refl _) _⟩
  replace hF := Lib.hid hF
  replace hamt := Lib.hid hamt
  replace hl := Lib.hid hl
  replace hOB0 := Lib.hid hOB0
  generalize nils nm = Z at *
  generalize hZ2 : zeros nc = Z2 at *
  replace hZ2 := Lib.hid hZ2
  go_enter Tryz.func28, Tryz.ntmps28
  go_wp2_with fail
  go_loopw [17] (fun i wr => ∃ k : Nat, k ≤ nm ∧ i = .int .i64 (k : Int) ∧ Hid (∃ rs R, OB w wr w.heap.size nm nc k rs R ∧ (∀ i, i < k → R i = netRow F nc i ∧ ∀ c, c < nc → Amt (sumL (F (i * 8 + c)))))) (fun i _ => nm - (intOf i).toNat)
  case atStart => exact ⟨0, by omega, rfl, Lib.hid ⟨_, _, hOB0.out, fun i hi => by omega⟩⟩
  case round =>
    obtain ⟨k, hk, rfl, hT⟩ := hrel
    obtain ⟨rs, R, hO, hR⟩ := hT.out
    have hgl : w.heap.size < wr.heap.size := obj_lt hO.obj
    by_cases hkn : k < nm
    · have ck := hO.cell hkn
      rw [if_neg (by omega)] at ck
      have fz0 := obj_free hO.obj k
      replace hO := Lib.hid hO
      replace hR := Lib.hid hR
      clear hT
      obtain ⟨hX, hdis⟩ := hO.out.next hkn
      rw [hZ2.out] at hX
      obtain ⟨W1, hW1⟩ : ∃ W1, W1 = (wr.setCell ⟨w.heap.size, k, none⟩ (.slice (some ⟨wr.heap.size, 0, none⟩) nc nc)).alloc (.cells Z2 2) := ⟨_, rfl⟩
      rw [← hW1] at hX
      obtain ⟨rs2, hrs2⟩ : ∃ rs2, rs2 = updF rs k wr.heap.size := ⟨_, rfl⟩
      have hrk : rs2 k = wr.heap.size := by rw [hrs2, updF_same]
      rw [← hrs2] at hX hdis
      obtain ⟨fk, hfk⟩ : ∃ fk : Nat → Int, fk = fun c => sumL (F (k * 8 + c)) := ⟨_, rfl⟩
      rw [← laidBy_zero fk] at hX
      obtain ⟨r, hr⟩ : ∃ r, r = wr.heap.size := ⟨_, rfl⟩
      have ckX := hX.cell hkn
      rw [if_pos (by omega), hrk] at ckX
      replace hX := Lib.hid hX
      replace hdis := Lib.hid hdis
      replace hrk := Lib.hid hrk
      replace hfk := Lib.hid hfk
      replace hrs2 := Lib.hid hrs2
      go_upto_region 6 with fail
      rw [← hW1]
      replace hW1 := Lib.hid hW1
      rw [← hr] at ckX ⊢
      replace hr := Lib.hid hr
      clear ck fz0
      go_wp2_with fail
      go_loopw [30] (fun i wq => ∃ j : Nat, j ≤ nc ∧ i = .int .i64 (j : Int) ∧ Hid (OB w wq w.heap.size nm nc (k + 1) rs2 (updF R k (laidBy fk nc j)) ∧ ∀ c, c < j → Amt (fk c))) (fun i _ => nc - (intOf i).toNat)
      case atStart => exact ⟨0, by omega, rfl, Lib.hid ⟨hX.out, fun c hc => by omega⟩⟩
      case round =>
        obtain ⟨j, hj, rfl, hS⟩ := hrel
        obtain ⟨hQ, hQa⟩ := hS.out
        have hrl : rs2 k = r := by rw [hrk.out, hr.out]
        by_cases hjn : j < nc
        · have hi : k * 8 + j < 128 := by omega
          have hFq := hF.out.kept hQ.bl
          have cf := hFq.cell hi
          have hrow := hFq.row (k * 8 + j) hi
          obtain ⟨p, cap, hpv, -, -, -⟩ := orow_shape hrow
          rw [hpv] at cf hrow
          have hsq := orow_seq hrow rfl (hamt.out (k * 8 + j)) (by have := hl.out (k * 8 + j); omega)
          have hsum := sum_any p (F (k * 8 + j)).length cap _ wr hsq
          have hfkj : fk j = sumL (F (k * 8 + j)) := by rw [hfk.out]
          rw [← hfkj] at hsum
          generalize hnn : (F (k * 8 + j)).length = n at *
          have hflq : f < wr.heap.size := hFq.lt
          have hfl5 : f ≠ r := by
            intro e
            have := hQ.rlo k (by omega)
            omega
          replace hsum := Lib.hid hsum
          replace hFq := Lib.hid hFq
          replace hfkj := Lib.hid hfkj
          replace hQ := Lib.hid hQ
          replace hQa := Lib.hid hQa
          clear hrow hsq hpv hnn
          by_cases hfit : Amt (fk j)
          · have hV : fitV (fk j) = fk j := by unfold Amt at hfit; unfold fitV; rw [if_pos hfit]
            have hE : fitE (fk j) = 0 := by unfold Amt at hfit; unfold fitE; rw [if_pos hfit]
            have hsum2 := hsum.out
            rw [hV, hE] at hsum2
            replace hsum2 := Lib.hid hsum2
            clear hsum hV hE hS
            obtain ⟨y, hy⟩ : ∃ y, y = fk j := ⟨_, rfl⟩
            rw [← hy] at hsum2
            replace hy := Lib.hid hy
            replace hfit := Lib.hid hfit
            go_upto_region 12 with (go_at_call 19; (with_reducible refine hsum2.out.mono ?_); rintro e w5 ⟨rfl, hb5⟩; replace hb5 := Lib.hid hb5)
            have hQ5 := hQ.out.kept hb5.out
            have d0 := hQ5.cell hkn
            rw [if_pos (by omega), hrl] at d0
            have hI := hQ5.row k (by omega)
            rw [updF_same, hrl] at hI
            have d1 := hI.cell (i := j) (by rw [laidBy_length]; exact hjn)
            have d2 := hI.free (i := j)
            have hnx := hQ5.put1 hdis.out j y
            rw [updF_same, updF_updF, hy.out, laidBy_set fk nc j hjn, ← hy.out, hrl] at hnx
            generalize (laidBy fk nc j).getD j 0 = y0 at d1
            replace hnx := Lib.hid hnx
            replace hQ5 := Lib.hid hQ5
            replace hI := Lib.hid hI
            go_wp2_with fail
            go_roundw
            case rel => exact ⟨j + 1, by omega, by go_num, Lib.hid ⟨hnx.out, fun c hc => by
              by_cases hcj : c = j
              · subst hcj; exact hfit.out
              · exact hQa.out c (by omega)⟩⟩
            case measure => simp [intOf]; omega
          · have hV : fitV (fk j) = 0 := by unfold Amt at hfit; unfold fitV; rw [if_neg hfit]
            have hE : fitE (fk j) = 3 := by unfold Amt at hfit; unfold fitE; rw [if_neg hfit]
            have hsum2 := hsum.out
            rw [hV, hE] at hsum2
            replace hsum2 := Lib.hid hsum2
            have hov : overF F nm nc = true := by
              unfold overF
              rw [List.any_eq_true]
              refine ⟨k, List.mem_range.2 hkn, ?_⟩
              rw [List.any_eq_true]
              refine ⟨j, List.mem_range.2 hjn, ?_⟩
              rw [← hfkj.out, Bool.not_eq_true', ← Bool.not_eq_true, fitB_iff]
              exact hfit
            replace hov := Lib.hid hov
            clear hsum hV hE hS
            replace hfit := Lib.hid hfit
            go_wp2_with (go_at_call 19; (with_reducible refine hsum2.out.mono ?_); rintro e w5 ⟨rfl, hb5⟩; replace hb5 := Lib.hid hb5)
            go_ret2
            exact ⟨(hQ.out.kept hb5.out).bl, .inl ⟨hov.out, rfl⟩⟩
        · obtain rfl : j = nc := by omega
          have hjz : ¬ (j : Int) < (j : Int) := by omega
          have hnr : laidBy fk j j = netRow F j k := by
            rw [hfk.out]; unfold laidBy netRow
            apply List.map_congr_left
            intro c hc
            rw [if_pos (List.mem_range.1 hc)]
          rw [hnr] at hQ
          have hR2 : ∀ i, i < k + 1 → updF R k (netRow F j k) i = netRow F j i ∧ ∀ c, c < j → Amt (sumL (F (i * 8 + c))) := fun i hi => by
            by_cases hik : i = k
            · subst hik
              refine ⟨updF_same _ _ _, fun c hc => ?_⟩
              have := hQa c hc
              rwa [hfk.out] at this
            · unfold updF; rw [if_neg hik]; exact hR.out i (by omega)
          replace hQ := Lib.hid hQ
          replace hR2 := Lib.hid hR2
          clear hS hQa
          go_wp2_with fail
          go_roundw
          case rel => exact ⟨k + 1, by omega, by go_num, Lib.hid ⟨rs2, _, hQ.out, hR2.out⟩⟩
          case measure => simp [intOf]; omega
    · obtain rfl : k = nm := by omega
      have hkz : ¬ (k : Int) < (k : Int) := by omega
      have hov : overF F k nc = false := by
        unfold overF
        rw [List.any_eq_false]
        intro m hm
        rw [Bool.not_eq_true, List.any_eq_false]
        intro c hc
        have := (hR m (List.mem_range.1 hm)).2 c (List.mem_range.1 hc)
        rw [← fitB_iff] at this
        simp [this]
      have hN := hO.nets (fun i hi => (hR i hi).1) hov h4 k
      have hbl := hO.bl
      replace hN := Lib.hid hN
      replace hbl := Lib.hid hbl
      replace hov := Lib.hid hov
      clear hO hR hT
      go_wp2_with fail
      go_ret2
      exact ⟨hbl.out, .inr ⟨hov.out, _, rfl, hN.out⟩⟩
end Go.Proofs.YthocnlalahknjaaGreat.Dd
