/- The contracts of wire's sizeOf, Take. -/
import Derived.Test.YtgcliallkfnhaaaUE
import Derived.Test.YtgcliallkfnhaaaW5
namespace Go.Proofs.Ytgcliallkfnhaaa
open Go.RowKit
set_option linter.unusedVariables false

/-- how many bytes fields take -/
def sumW : List Nat → Nat
  | [] => 0
  | i :: l => wid i + sumW l
theorem sumW_app : ∀ l r : List Nat, sumW (l ++ r) = sumW l + sumW r
  | [], r => by simp [sumW]
  | i :: l, r => by rw [List.cons_append, sumW, sumW, sumW_app l r]; omega
theorem sumW_succ (l : List Nat) (j i : Nat) (h : l[j]? = some i) : sumW (l.take (j + 1)) = sumW (l.take j) + wid i := by
  obtain ⟨hj, he⟩ := List.getElem?_eq_some_iff.1 h
  rw [List.take_succ_eq_append_getElem hj, sumW_app, he]
  rfl
theorem sumW_le : ∀ l : List Nat, sumW l ≤ 8 * l.length
  | [] => Nat.le_refl _
  | i :: l => by
    have := sumW_le l
    have := wid_le i
    rw [sumW, List.length_cons]
    omega
theorem flds_known {k : Int} : flds k ≠ [] ↔ known k = true := by
  cases h : known k with
  | true => simp; exact uses_all (P := fun k => flds k ≠ []) h (by decide) (by decide) (by decide) (by decide) (by decide) (by decide) (by decide) (by decide) (by decide)
  | false =>
    have := (uses_known k).2 h
    unfold flds hasN
    rw [this]
    simp
theorem pos_flds {k : Int} {j i : Nat} (h : (flds k)[j]? = some i) : pos k i = 1 + sumW ((flds k).take j) := by
  have hm := flds_mem (List.mem_of_getElem? h)
  have hk : known k = true := flds_known.1 (fun e => by rw [e] at h; simp at h)
  have hj : j < 7 := by have := (List.getElem?_eq_some_iff.1 h).1; have := flds_len k; omega
  exact uses_all (P := fun k => ∀ j, j < 7 → ∀ i, i < 7 → (flds k)[j]? = some i → pos k i = 1 + sumW ((flds k).take j)) hk (by decide) (by decide) (by decide) (by decide) (by decide) (by decide) (by decide) (by decide) (by decide) j hj i hm.1 h
theorem pos_seven {k : Int} (hk : known k = true) : pos k 7 = 1 + sumW (flds k) :=
  uses_all (P := fun k => pos k 7 = 1 + sumW (flds k)) hk (by decide) (by decide) (by decide) (by decide) (by decide) (by decide) (by decide) (by decide) (by decide)
theorem mem_flds {k : Int} {i : Nat} (h : i < 7) : i ∈ flds k ↔ hasN k i = true := by
  unfold flds
  rw [List.mem_filter, List.mem_range]
  simp [h]
theorem mem_succ {l : List Nat} {j i x : Nat} (h : l[j]? = some i) : x ∈ l.take (j + 1) ↔ x ∈ l.take j ∨ x = i := by
  obtain ⟨hj, he⟩ := List.getElem?_eq_some_iff.1 h
  rw [List.take_succ_eq_append_getElem hj, List.mem_append, he]
  simp
theorem bl_from (s : ByteArray) (k : Nat) : bl (s.extract k s.size) = (bl s).drop k := by
  unfold bl
  rw [Lib.extract_data]
  have : (s.data.toList.drop k).length = s.size - k := by rw [List.length_drop]; rfl
  rw [List.take_of_length_le (by omega)]
theorem told_val {s : List UInt8} {i : Nat} (hi : i < 7) (hn : hasN (told s).Kind i = false) : (told s).num i = 0 := by
  rw [told_num s i hi]
  unfold valU
  rw [hn]
  rfl
/-- of known kinds it hangs on the Id whether what bytes tell may be -/
theorem may_told (s : List UInt8) (hk : known (told s).Kind = true) : mayC (told s) = idOk (told s).Id := by
  have hall : ∀ i, i < 7 → i ≠ 1 → mayN (told s) i = true := fun i hi h1 => by
    unfold mayN
    have hw : wid i ≠ 4 := by
      unfold wid
      split <;> simp_all
    rw [if_neg hw]
    have h0 : (hasN (told s).Kind i || (told s).num i == 0) = true := by
      cases h : hasN (told s).Kind i with
      | true => rfl
      | false => rw [told_val hi h]; rfl
    rw [h0]
    split
    · rename_i hw1
      rw [told_num s i hi]
      have : valU (told s).Kind s i < 256 := by
        unfold valU
        split
        · have h2 := vls_lt ((s.drop (pos (told s).Kind i)).take (wid i))
          have h3 : ((s.drop (pos (told s).Kind i)).take (wid i)).length ≤ 1 := by rw [List.length_take]; omega
          have h4 : 256 ^ ((s.drop (pos (told s).Kind i)).take (wid i)).length ≤ 256 ^ 1 := Nat.pow_le_pow_right (by decide) h3
          omega
        · omega
      unfold toI
      rw [if_pos (by omega)]
      simp
      omega
    · rfl
  have h1 : mayN (told s) 1 = idOk (told s).Id := by
    unfold mayN
    have h0 : (hasN (told s).Kind 1 || (told s).num 1 == 0) = true := by
      cases h : hasN (told s).Kind 1 with
      | true => rfl
      | false => rw [told_val (by omega) h]; rfl
    rw [h0]
    rfl
  cases h : idOk (told s).Id with
  | true =>
    refine (mayC_iff _).2 ⟨hk, fun i hi => ?_⟩
    by_cases e : i = 1
    · subst e; rw [h1, h]
    · exact hall i hi e
  | false =>
    cases h2 : mayC (told s) with
    | false => rfl
    | true =>
      have := ((mayC_iff _).1 h2).2 1 (by omega)
      rw [h1, h] at this
      cases this
/-- a command with another number -/
def Cmd.setN (c : Cmd) (i : Nat) (x : Int) : Cmd := match i with
  | 0 => { c with Member := x }
  | 1 => { c with Id := x }
  | 2 => { c with Other := x }
  | 3 => { c with Cur := x }
  | 4 => { c with Cur2 := x }
  | 5 => { c with Amount := x }
  | _ => { c with Amount2 := x }
theorem setN_arr (c : Cmd) (x : Int) : ∀ i, i < 7 → c.arr.setIfInBounds (i + 1) (.int .i64 x) = (c.setN i x).arr
  | 0, _ | 1, _ | 2, _ | 3, _ | 4, _ | 5, _ | 6, _ => rfl
  | n + 7, h => by omega
theorem setN_kind (c : Cmd) (x : Int) (i : Nat) : (c.setN i x).Kind = c.Kind := by unfold Cmd.setN; split <;> rfl
theorem setN_num (c : Cmd) (x : Int) (i j : Nat) (hi : i < 7) (hj : j < 7) : (c.setN i x).num j = if j = i then x else c.num j := by
  have h1 : i = 0 ∨ i = 1 ∨ i = 2 ∨ i = 3 ∨ i = 4 ∨ i = 5 ∨ i = 6 := by omega
  have h2 : j = 0 ∨ j = 1 ∨ j = 2 ∨ j = 3 ∨ j = 4 ∨ j = 5 ∨ j = 6 := by omega
  rcases h1 with rfl | rfl | rfl | rfl | rfl | rfl | rfl <;> rcases h2 with rfl | rfl | rfl | rfl | rfl | rfl | rfl <;> rfl

set_option maxHeartbeats 4000000 in
set_option maxRecDepth 100000 in
theorem sizeOf_any (k : Int) (g : Nat) (p : Option Addr) (A D : Nat → Nat) (w : World) (hp : flds k ≠ [] → p = some ⟨g, 0, none⟩) (hfl : flds k ≠ [] → w.heap[g]? = some (.cells (flat A D (flds k)) 67 (0, 0))) :
    Calls Try.prog 26 #[.slice p (flds k).length (flds k).length] w fun e w' => e = .returned (.int .i64 (sumW (flds k) : Nat)) ∧ Below w.heap.size w w' := by
  have hn7 := flds_len k
  generalize hn : (flds k).length = n at *
  replace hfl := Lib.hid hfl
  go_enter Try.func26, Try.ntmps26
  go_wp2_with fail
  go_loopw [3, 8] (fun z i wr => ∃ j : Nat, j ≤ n ∧ i = .int .i64 (j : Int) ∧ z = .int .i64 (sumW ((flds k).take j) : Nat) ∧ Hid (Below w.heap.size w wr)) (fun _ i _ => n - (intOf i).toNat)
  case atStart => exact ⟨0, by omega, rfl, rfl, Lib.hid (Below.refl _ _)⟩
  case round =>
    obtain ⟨j, hj, rfl, rfl, hS⟩ := hrel
    by_cases hjn : j < n
    · have kz : (j : Int) < (n : Int) := by omega
      have hne : flds k ≠ [] := fun e => by rw [e] at hn; simp at hn; omega
      have hpe := hp hne
      subst hpe
      obtain ⟨i, hi⟩ : ∃ i, (flds k)[j]? = some i := ⟨_, List.getElem?_eq_getElem (by omega)⟩
      have hfg := flat_get A D (flds k) j i hi
      rw [Nat.mul_comm 3 j] at hfg
      have hg := (hS.out.block g (obj_lt (hfl.out hne))).trans (hfl.out hne)
      have r0 : wr.cell? ⟨g, j * 3, none⟩ = some (.int .i64 (wid i : Nat)) := obj_cell hg (hfg 0 (by omega))
      have r1 : wr.cell? ⟨g, j * 3 + 1, none⟩ = some (.func (.func (layF i)) #[] #[.pointer (some ⟨A i, 0, none⟩), .pointer (some ⟨D i, 0, none⟩)]) := obj_cell hg (hfg 1 (by omega))
      have r2 : wr.cell? ⟨g, j * 3 + 2, none⟩ = some (.func (.func (takF i)) #[] #[.pointer (some ⟨D i, 0, none⟩), .pointer (some ⟨A i, 0, none⟩)]) := obj_cell hg (hfg 2 (by omega))
      have hx := heap_alloc_new wr (.cells #[.int .i64 0, .nilFunc, .nilFunc] 67)
      have hW : Below w.heap.size w ((wr.alloc (.cells #[.int .i64 0, .nilFunc, .nilFunc] 67)).setRow wr.heap.size #[.int .i64 (wid i : Nat), .func (.func (layF i)) #[] #[.pointer (some ⟨A i, 0, none⟩), .pointer (some ⟨D i, 0, none⟩)], .func (.func (takF i)) #[] #[.pointer (some ⟨D i, 0, none⟩), .pointer (some ⟨A i, 0, none⟩)]]) := below_setRow (hS.out.alloc hS.out.size _) hS.out.size _
      have r3 : ((wr.alloc (.cells #[.int .i64 0, .nilFunc, .nilFunc] 67)).setRow wr.heap.size #[.int .i64 (wid i : Nat), .func (.func (layF i)) #[] #[.pointer (some ⟨A i, 0, none⟩), .pointer (some ⟨D i, 0, none⟩)], .func (.func (takF i)) #[] #[.pointer (some ⟨D i, 0, none⟩), .pointer (some ⟨A i, 0, none⟩)]]).cell? ⟨wr.heap.size, 0, none⟩ = some (.int .i64 (wid i : Nat)) := obj_cell (setRow_heap _ _ _ _ _ _ hx) rfl
      have hsu := sumW_succ (flds k) j i hi
      have hsl := sumW_le ((flds k).take j)
      rw [List.length_take] at hsl
      have hwl := wid_le i
      generalize sumW ((flds k).take j) = z at *
      replace hfg := Lib.hid hfg
      replace hg := Lib.hid hg
      replace hx := Lib.hid hx
      replace hW := Lib.hid hW
      replace hsu := Lib.hid hsu
      go_wp2_with (first | (refine wpList_store_row rfl 67 _ _ rfl wr.heap.size _ rfl rfl 67 _ hx.out (by kernel_rfl) rfl (by simp [Value.oneCell']) ?_))
      go_roundw
      case rel => exact ⟨j + 1, by omega, by go_num, by rw [hsu.out]; go_num, hW⟩
      case measure => simp [intOf]; omega
    · obtain rfl : j = n := by omega
      have kz : ¬ (j : Int) < (j : Int) := by omega
      rw [← hn, List.take_length]
      go_wp2_with fail
      go_ret
      exact ⟨rfl, hS.out⟩
end Go.Proofs.Ytgcliallkfnhaaa
