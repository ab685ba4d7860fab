/- The contracts of wire's laid, sizeOf. -/
import Derived.Test.YtgcliallkfnhaaaUD
namespace Go.Proofs.Ytgcliallkfnhaaa
open Go.RowKit
set_option linter.unusedVariables false

theorem flat_get (A D : Nat → Nat) : ∀ (l : List Nat) (j i : Nat), l[j]? = some i → ∀ q, q < 3 → (flat A D l)[3 * j + q]? = (fArr i (A i) (D i))[q]?
  | [], j, i, h, q, hq => by simp at h
  | x :: l, 0, i, h, q, hq => by
    obtain rfl : x = i := by simpa using h
    have e : q = 0 ∨ q = 1 ∨ q = 2 := by omega
    rcases e with rfl | rfl | rfl <;> rfl
  | x :: l, j + 1, i, h, q, hq => by
    have ih := flat_get A D l j i (by simpa using h) q hq
    rw [← ih]
    unfold flat
    simp only [List.flatMap_cons, List.getElem?_toArray]
    rw [show 3 * (j + 1) + q = 3 + (3 * j + q) by omega, List.getElem?_append_right (by unfold fArr; simp)]
    congr 1
    unfold fArr
    simp
theorem flds_mem {k : Int} {i : Nat} (h : i ∈ flds k) : i < 7 ∧ hasN k i = true := by
  unfold flds at h
  rw [List.mem_filter, List.mem_range] at h
  exact h
theorem flds_len (k : Int) : (flds k).length ≤ 7 := by
  have := List.length_filter_le (hasN k) (List.range 7)
  unfold flds
  simpa using this
/-- the bytes of fields -/
def partB (c : Cmd) (l : List Nat) : List UInt8 := l.flatMap fun i => bes (wid i) (toU (c.num i))
theorem partB_le (c : Cmd) : ∀ l : List Nat, (partB c l).length ≤ 8 * l.length
  | [] => Nat.le_refl _
  | i :: l => by
    have := partB_le c l
    unfold partB at *
    rw [List.flatMap_cons, List.length_append, bes_length, List.length_cons]
    have := wid_le i
    omega
theorem partB_pieces (c : Cmd) : ∀ n, pieces c n = partB c ((List.range n).filter (hasN c.Kind))
  | 0 => rfl
  | n + 1 => by
    rw [pieces, partB_pieces c n, List.range_succ, List.filter_append]
    unfold partB piece
    rw [List.flatMap_append]
    congr 1
    cases h : hasN c.Kind n <;> simp [h]
theorem putC_flds (c : Cmd) : putC c = UInt8.ofNat (toU c.Kind % 256) :: partB c (flds c.Kind) := by
  unfold putC flds
  rw [partB_pieces]
theorem partB_succ (c : Cmd) (l : List Nat) (j i : Nat) (h : l[j]? = some i) : partB c (l.take (j + 1)) = partB c (l.take j) ++ bes (wid i) (toU (c.num i)) := by
  obtain ⟨hj, he⟩ := List.getElem?_eq_some_iff.1 h
  rw [List.take_succ_eq_append_getElem hj]
  unfold partB
  rw [List.flatMap_append, he]
  simp
/-- a block that is no row of bytes is left alone by what lays bytes -/
theorem Laid.block {w w' : World} {v u : Value} {l l' : List UInt8} (h : Laid w w' v u l') (hr : Row w v l) {j : Nat} {cs : Array Value} {t : TypeId} {fr : Nat × Nat} (hj : w.heap[j]? = some (.cells cs t fr)) (ht : t ≠ 5) : w'.heap[j]? = some (.cells cs t fr) := by
  refine (h.kp.block j (obj_lt hj) fun e => ?_).trans hj
  rcases hr.2 with ⟨rfl, _⟩ | ⟨g, cap, cur, rfl, _, hg, _⟩
  · cases e
  · injection e with e
    subst e
    rw [hg] at hj
    injection hj with hj
    injection hj with _ hj _
    exact ht hj.symm
/-- laid's way: what it holds -/
structure LSt (c : Cmd) (w : World) (g : Nat) (A D : Nat → Nat) (b : Value) (l : List UInt8) (wr : World) : Prop where
  row : Row wr b l
  own : ∀ h, b.ownBlock = some h → w.heap.size ≤ h
  obj : wr.heap[w.heap.size]? = some (.cells c.arr 23 (0, 0))
  fl : flds c.Kind ≠ [] → wr.heap[g]? = some (.cells (flat A D (flds c.Kind)) 67 (0, 0))
  fs : ∀ i, i < 7 → Fld wr w.heap.size i (A i) (D i)
  blw : Below w.heap.size w wr
theorem LSt.below {c : Cmd} {w wr w' : World} {g : Nat} {A D : Nat → Nat} {b : Value} {l : List UInt8} (h : LSt c w g A D b l wr) (hb : Below wr.heap.size wr w') : LSt c w g A D b l w' :=
  ⟨h.row.kept fun x hx => hb.block x (h.row.lt x hx), h.own, (hb.block _ (obj_lt h.obj)).trans h.obj, fun e => (hb.block _ (obj_lt (h.fl e))).trans (h.fl e), fun i hi => (h.fs i hi).below hb, h.blw.trans (hb.mono h.blw.size)⟩
theorem LSt.laid {c : Cmd} {w wr w' : World} {g : Nat} {A D : Nat → Nat} {b u : Value} {l l' : List UInt8} (h : LSt c w g A D b l wr) (hL : Laid wr w' b u l') : LSt c w g A D u l' w' := by
  refine ⟨hL.row, fun x hx => ?_, hL.block h.row h.obj (by decide), fun e => hL.block h.row (h.fl e) (by decide), fun i hi => ⟨hL.block h.row (h.fs i hi).pa ?_, hL.block h.row (h.fs i hi).pb (by decide)⟩, h.blw.trans (hL.kp.below h.blw.size fun j hj e => ?_)⟩
  · rcases hL.own x hx with e | e
    · exact h.own x e
    · have := h.blw.size; omega
  · unfold ptrT; split <;> decide
  · have := h.own j e; omega

theorem arr_get (c : Cmd) : ∀ i, i < 7 → c.arr[i + 1]? = some (.int .i64 (c.num i))
  | 0, _ | 1, _ | 2, _ | 3, _ | 4, _ | 5, _ | 6, _ => rfl
  | n + 7, h => by omega
theorem FRow.shape {w : World} {B : Nat} {k : Int} {v : Value} {A D : Nat → Nat} (h : (flds k = [] ∧ v = .slice none 0 0) ∨ (flds k ≠ [] ∧ ∃ g, v = .slice (some ⟨g, 0, none⟩) (flds k).length (flds k).length ∧ B ≤ g ∧ w.heap[g]? = some (.cells (flat A D (flds k)) 67 (0, 0)))) :
    ∃ g p, v = .slice p (flds k).length (flds k).length ∧ (flds k ≠ [] → p = some ⟨g, 0, none⟩) ∧ (flds k ≠ [] → w.heap[g]? = some (.cells (flat A D (flds k)) 67 (0, 0))) := by
  rcases h with ⟨h1, h2⟩ | ⟨h1, g, h2, h3, h4⟩
  · exact ⟨0, none, by rw [h1, h2]; rfl, fun e => absurd h1 e, fun e => absurd h1 e⟩
  · exact ⟨g, _, h2, fun _ => rfl, fun _ => h4⟩
set_option maxHeartbeats 4000000 in
set_option maxRecDepth 100000 in
theorem laid_any (c : Cmd) (w : World) : Calls Try.prog 20 #[.agg c.arr] w fun e w' => e = .returned (sv (putC c)) ∧ Below w.heap.size w w' := by
  have hB0 : Below w.heap.size w (w.alloc (.cells c.arr 23)) := (Below.refl _ _).alloc (Nat.le_refl _) _
  have hbx : (w.alloc (.cells c.arr 23)).heap[w.heap.size]? = some (.cells c.arr 23 (0, 0)) := heap_alloc_new w _
  have hbr := hbx
  have arr0 : c.arr = #[.int .i64 c.Kind, .int .i64 c.Member, .int .i64 c.Id, .int .i64 c.Other, .int .i64 c.Cur, .int .i64 c.Cur2, .int .i64 c.Amount, .int .i64 c.Amount2] := rfl
  rw [arr0] at hbr
  rw [arr0]
  rw [arr0] at hB0
  generalize hv : w.alloc (.cells #[.int .i64 c.Kind, .int .i64 c.Member, .int .i64 c.Id, .int .i64 c.Other, .int .i64 c.Cur, .int .i64 c.Cur2, .int .i64 c.Amount, .int .i64 c.Amount2] 23) = v at *
  rw [arr0, hv] at hbx
  generalize hB : w.heap.size = B at *
  have hk0 : v.cell? ⟨B, 0, none⟩ = some (.int .i64 c.Kind) := obj_cell hbr rfl
  have cL : Calls Try.prog 32 #[.slice none 0 0, .int .i64 c.Kind, .int .i64 1] v fun e w' => ∃ b, e = .returned b ∧ Laid v w' (.slice none 0 0) b ([] ++ bes 1 (toU c.Kind)) := lay32_any (.slice none 0 0) [] c.Kind 1 v (Row.nil v) (by omega) (by simp)
  replace hv := Lib.hid hv
  replace hB := Lib.hid hB
  replace hB0 := Lib.hid hB0
  replace hbx := Lib.hid hbx
  replace hbr := Lib.hid hbr
  replace cL := Lib.hid cL
  replace arr0 := Lib.hid arr0
  go_enter Try.func20, Try.ntmps20
  go_upto_region 1 with (fail)
  rw [hB.out]
  change Code.wp _ _ _ _ (w.alloc (.cells #[.int .i64 c.Kind, .int .i64 c.Member, .int .i64 c.Id, .int .i64 c.Other, .int .i64 c.Cur, .int .i64 c.Cur2, .int .i64 c.Amount, .int .i64 c.Amount2] 23))
  rw [hv.out]
  go_wp2_with fail
  with_reducible refine cL.out.mono ?_
  rintro e w1 ⟨b, rfl, hL1⟩
  have hobj1 := hL1.block (Row.nil v) hbr.out (by decide)
  have hk1 : w1.cell? ⟨B, 0, none⟩ = some (.int .i64 c.Kind) := obj_cell hobj1 rfl
  have cF := fields_any B c.Kind w1 hk1
  replace hL1 := Lib.hid hL1
  replace hobj1 := Lib.hid hobj1
  replace cF := Lib.hid cF
  go_wp2_with fail
  with_reducible refine cF.out.mono ?_
  rintro e w2 ⟨vf, rfl, ⟨A, D, hfs, hfl⟩, hB2⟩
  obtain ⟨g, p, hvf, hpg⟩ := FRow.shape hfl
  subst hvf
  have hn7 := flds_len c.Kind
  have hput := putC_flds c
  have hS0 : LSt c w g A D b (UInt8.ofNat (toU c.Kind % 256) :: partB c ((flds c.Kind).take 0)) w2 := by
    have hr := hL1.out.row
    have e : bes 1 (toU c.Kind) = [UInt8.ofNat (toU c.Kind % 256)] := by unfold bes; rw [Nat.pow_zero, Nat.div_one]; rfl
    rw [e] at hr
    have hbw : Below v.heap.size v w1 := hL1.out.kp.below (Nat.le_refl _) fun j _ h => by cases h
    have hvs := obj_lt hbr.out
    refine ⟨hr.kept fun x hx => hB2.block x (hr.lt x hx), fun x hx => ?_, ?_, fun e => hpg.2 e, ?_, ?_⟩
    · rcases hL1.out.own x hx with h | h
      · cases h
      · rw [hB.out]; omega
    · rw [hB.out, arr0.out]; exact (hB2.block B (obj_lt hobj1.out)).trans hobj1.out
    · rw [hB.out]; exact fun i hi => (hfs i hi).1
    · rw [hB.out]; exact hB0.out.trans ((hbw.mono (Nat.le_of_lt hvs)).trans (hB2.mono (Nat.le_of_lt (obj_lt hobj1.out))))
  generalize hn : (flds c.Kind).length = n at *
  replace hS0 := Lib.hid hS0
  replace hfs := Lib.hid hfs
  replace hpg := Lib.hid hpg
  replace hB2 := Lib.hid hB2
  replace hput := Lib.hid hput
  clear hfl
  go_wp2_with fail
  go_loopw [3, 11] (fun b i wr => ∃ j : Nat, j ≤ n ∧ i = .int .i64 (j : Int) ∧ Hid (LSt c w g A D b (UInt8.ofNat (toU c.Kind % 256) :: partB c ((flds c.Kind).take j)) wr)) (fun _ i _ => n - (intOf i).toNat)
  case atStart => exact ⟨0, by omega, rfl, hS0⟩
  case round =>
    obtain ⟨j, hj, rfl, hS⟩ := hrel
    by_cases hjn : j < n
    · have kz : (j : Int) < (n : Int) := by omega
      have hne : flds c.Kind ≠ [] := fun e => by rw [e] at hn; simp at hn; omega
      have hpe := hpg.out.1 hne
      subst hpe
      obtain ⟨i, hi⟩ : ∃ i, (flds c.Kind)[j]? = some i := ⟨_, List.getElem?_eq_getElem (by omega)⟩
      have him := flds_mem (List.mem_of_getElem? hi)
      have hfg := flat_get A D (flds c.Kind) j i hi
      have hSo := hS.out
      rw [Nat.mul_comm 3 j] at hfg
      have r0 : wr.cell? ⟨g, j * 3, none⟩ = some (.int .i64 (wid i : Nat)) := obj_cell (hSo.fl hne) (hfg 0 (by omega))
      have r1 : wr.cell? ⟨g, j * 3 + 1, none⟩ = some (.func (.func (layF i)) #[] #[.pointer (some ⟨A i, 0, none⟩), .pointer (some ⟨D i, 0, none⟩)]) := obj_cell (hSo.fl hne) (hfg 1 (by omega))
      have r2 : wr.cell? ⟨g, j * 3 + 2, none⟩ = some (.func (.func (takF i)) #[] #[.pointer (some ⟨D i, 0, none⟩), .pointer (some ⟨A i, 0, none⟩)]) := obj_cell (hSo.fl hne) (hfg 2 (by omega))
      have hx := heap_alloc_new wr (.cells #[.int .i64 0, .nilFunc, .nilFunc] 67)
      have hW : Below wr.heap.size wr ((wr.alloc (.cells #[.int .i64 0, .nilFunc, .nilFunc] 67)).setRow wr.heap.size #[.int .i64 (wid i : Nat), .func (.func (layF i)) #[] #[.pointer (some ⟨A i, 0, none⟩), .pointer (some ⟨D i, 0, none⟩)], .func (.func (takF i)) #[] #[.pointer (some ⟨D i, 0, none⟩), .pointer (some ⟨A i, 0, none⟩)]]) := below_setRow ((Below.refl _ _).alloc (Nat.le_refl _) _) (Nat.le_refl _) _
      have r3 : ((wr.alloc (.cells #[.int .i64 0, .nilFunc, .nilFunc] 67)).setRow wr.heap.size #[.int .i64 (wid i : Nat), .func (.func (layF i)) #[] #[.pointer (some ⟨A i, 0, none⟩), .pointer (some ⟨D i, 0, none⟩)], .func (.func (takF i)) #[] #[.pointer (some ⟨D i, 0, none⟩), .pointer (some ⟨A i, 0, none⟩)]]).cell? ⟨wr.heap.size, 1, none⟩ = some (.func (.func (layF i)) #[] #[.pointer (some ⟨A i, 0, none⟩), .pointer (some ⟨D i, 0, none⟩)]) := obj_cell (setRow_heap _ _ _ _ _ _ hx) rfl
      have hS2 := hSo.below hW
      have hps := partB_succ c (flds c.Kind) j i hi
      have hpl := partB_le c ((flds c.Kind).take j)
      rw [List.length_take] at hpl
      have cC := clay_any w.heap.size i (A i) (D i) (c.num i) u3 (UInt8.ofNat (toU c.Kind % 256) :: partB c ((flds c.Kind).take j)) _ (hS2.fs i him.1) hS2.row (by rw [List.length_cons]; omega) (obj_cell hS2.obj (arr_get c i him.1))
      have henter := enterL i
      replace hSo := Lib.hid hSo
      replace hS2 := Lib.hid hS2
      replace hfg := Lib.hid hfg
      replace him := Lib.hid him
      replace hx := Lib.hid hx
      replace hW := Lib.hid hW
      replace cC := Lib.hid cC
      replace hps := Lib.hid hps
      go_wp2_with (first | (refine wpList_store_row rfl 67 _ _ rfl wr.heap.size _ rfl rfl 67 _ hx.out (by kernel_rfl) rfl (by simp [Value.oneCell']) ?_))
      with_reducible refine cC.out.mono ?_
      rintro e w3 ⟨u, rfl, hU⟩
      have hS3 := hS2.out.laid hU
      rw [List.cons_append, ← hps.out] at hS3
      replace hS3 := Lib.hid hS3
      replace hU := Lib.hid hU
      go_wp2_with fail
      go_roundw
      case rel => exact ⟨j + 1, by omega, by go_num, hS3⟩
      case measure => simp [intOf]; omega
    · obtain rfl : j = n := by omega
      have kz : ¬ (j : Int) < (j : Int) := by omega
      have hSo := hS.out
      rw [← hn, List.take_length, ← hput.out] at hSo
      have htx := hSo.row.text
      have hBl := hSo.blw
      rw [hB.out] at hBl
      replace hBl := Lib.hid hBl
      replace hSo := Lib.hid hSo
      go_wp2_with fail
      go_ret
      exact ⟨rfl, hBl.out⟩
end Go.Proofs.Ytgcliallkfnhaaa
