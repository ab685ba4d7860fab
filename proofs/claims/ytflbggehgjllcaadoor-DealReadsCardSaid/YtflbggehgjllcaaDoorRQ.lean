/- The contract of the reference's Text. -/
import Derived.Test.YtflbggehgjllcaaDoorRO
import Derived.Test.YtflbggehgjllcaaDoorRL
namespace Go.Proofs.YtflbggehgjllcaaDoor
open Go.RowKit
set_option linter.unusedVariables false
theorem text_size (l : List UInt8) : (⟨l.toArray⟩ : ByteArray).size = l.length := by show l.toArray.size = _; simp
section
variable {P : Nat → Prop} {w : World} {rb : Nat} {b : Bk} {v : Value}
set_option maxHeartbeats 8000000 in
set_option maxRecDepth 100000 in
theorem rtext_any (h : RB P w rb b) (hlen : b.l.length ≤ 1000) (hask : ∀ e ∈ b.l, 0 ≤ e.ask ∧ e.ask ≤ 3) :
    Calls Tryd.prog 12 #[.pointer (some ⟨rb, 0, none⟩)] w fun e w' => e = .returned (sv b.text) ∧ Below w.heap.size w w' := by
  obtain ⟨v, h⟩ := h
  obtain ⟨p, cap, rfl, -, -, -⟩ := orow_shape h.row
  obtain ⟨n, hn⟩ : ∃ n, n = b.l.length := ⟨_, rfl⟩
  have c2 : w.cell? ⟨rb, 2, none⟩ = some (.slice p n cap) := by rw [hn]; exact obj_cell h.obj rfl
  have hn1 : n ≤ 1000 := by omega
  have hrl := h.lt
  obtain ⟨R, hR⟩ : ∃ R, R = b.text := ⟨_, rfl⟩
  rw [← hR]
  have cl2 := rlay_any (n : Nat) 2 w (by omega)
  have hgp : ∀ k, k < b.l.length → ∃ g, p = some ⟨g, 0, none⟩ := fun k hk => by
    obtain ⟨g, c1, cur, e1, _⟩ := orow_some h.row (by omega)
    injection e1 with e1 _ _
    exact ⟨g, e1⟩
  unfold sv at *
  replace cl2 : Calls Tryd.prog 32 #[.int .i64 (n : Nat), .int .i64 2] w fun e w' => e = .returned (.string ⟨(bes 2 (toU (n : Nat))).toArray⟩) ∧ Below w.heap.size w w' := cl2
  replace cl2 := Lib.hid cl2
  replace h := Lib.hid h
  replace hn := Lib.hid hn
  replace hR := Lib.hid hR
  replace hgp := Lib.hid hgp
  replace hask := Lib.hid hask
  go_enter Tryd.func12, Tryd.ntmps12
  go_wp2_with (go_at_call 32; (with_reducible refine cl2.out.mono ?_); rintro e w1 ⟨rfl, hb1⟩; have c2b := (hb1.cell (p := ⟨rb, 2, none⟩) hrl).trans c2; replace hb1 := Lib.hid hb1)
  go_loopw [3, 4] (fun s i wr => ∃ k : Nat, k ≤ n ∧ i = .int .i64 (k : Int) ∧ s = .string ⟨(bes 2 (toU (n : Nat)) ++ ents (b.l.take k)).toArray⟩ ∧ Hid (Below w.heap.size w wr)) (fun _ i _ => n - (intOf i).toNat)
  case atStart => exact ⟨0, by omega, rfl, by unfold ents; simp, hb1⟩
  case round =>
    obtain ⟨k, hk, rfl, rfl, hB⟩ := hrel
    have c2r := (hB.out.cell (p := ⟨rb, 2, none⟩) hrl).trans c2
    by_cases hkn : k < n
    · obtain ⟨g, rfl⟩ := hgp.out k (by have := hn.out; omega)
      have hkz : (k : Int) < (n : Int) := by omega
      have hkz0 : (0 : Int) ≤ (k : Int) := by omega
      have hkb : k < b.l.length := by have := hn.out; omega
      have hak := hask.out _ (List.getElem_mem hkb)
      obtain ⟨e0, e1, e2, e3, e4, e5, e6, e7, e8, e9, e10⟩ := (h.out.below hB.out).entry hkb rfl
      have hents := ents_succ hkb
      have hel := ents_length (b.l.take k)
      have hkl : (b.l.take k).length = k := by rw [List.length_take]; omega
      rw [hkl] at hel
      generalize b.l[k] = x at *
      replace hents := Lib.hid hents
      obtain ⟨A, hA⟩ : ∃ A, A = bes 2 (toU (n : Nat)) ++ ents (b.l.take k) := ⟨_, rfl⟩
      have hAl : A.length ≤ 100000 := by rw [hA, List.length_append, bes_length, hel]; omega
      rw [← hA]
      have hfin : bes 2 (toU (n : Nat)) ++ ents (b.l.take (k + 1)) = A ++ entB x := by rw [hents.out, ← List.append_assoc, ← hA]
      replace hA := Lib.hid hA
      replace hfin := Lib.hid hfin
      clear hel hkl
      obtain ⟨S0, hS0⟩ : ∃ S : ByteArray, S = ⟨A.toArray⟩ := ⟨_, rfl⟩
      rw [← hS0]
      have hcell : ∀ w2, Below (wr.alloc (.cells #[.int .i64 x.d.id, .int .i64 x.d.a, .int .i64 x.d.b, .int .i64 x.d.sc, .int .i64 x.d.bc, .int .i64 x.d.s, .int .i64 x.d.t, .int .i64 x.st, .bool x.byA, .bool x.byB, .int .i64 x.nth] 61)).heap.size (wr.alloc (.cells #[.int .i64 x.d.id, .int .i64 x.d.a, .int .i64 x.d.b, .int .i64 x.d.sc, .int .i64 x.d.bc, .int .i64 x.d.s, .int .i64 x.d.t, .int .i64 x.st, .bool x.byA, .bool x.byB, .int .i64 x.nth] 61)) w2 → w2.cell? ⟨wr.heap.size, 0, none⟩ = some (Value.int IntKind.i64 x.d.id) ∧ w2.cell? ⟨wr.heap.size, 1, none⟩ = some (Value.int IntKind.i64 x.d.a) ∧ w2.cell? ⟨wr.heap.size, 2, none⟩ = some (Value.int IntKind.i64 x.d.b) ∧ w2.cell? ⟨wr.heap.size, 3, none⟩ = some (Value.int IntKind.i64 x.d.sc) ∧ w2.cell? ⟨wr.heap.size, 4, none⟩ = some (Value.int IntKind.i64 x.d.bc) ∧ w2.cell? ⟨wr.heap.size, 5, none⟩ = some (Value.int IntKind.i64 x.d.s) ∧ w2.cell? ⟨wr.heap.size, 6, none⟩ = some (Value.int IntKind.i64 x.d.t) ∧ w2.cell? ⟨wr.heap.size, 7, none⟩ = some (Value.int IntKind.i64 x.st) ∧ w2.cell? ⟨wr.heap.size, 8, none⟩ = some (Value.bool x.byA) ∧ w2.cell? ⟨wr.heap.size, 9, none⟩ = some (Value.bool x.byB) ∧ w2.cell? ⟨wr.heap.size, 10, none⟩ = some (Value.int IntKind.i64 x.nth) := fun w2 hb => by
        have h2 := (hb.block wr.heap.size (by simp)).trans (heap_alloc_new wr _)
        exact ⟨obj_cell h2 rfl, obj_cell h2 rfl, obj_cell h2 rfl, obj_cell h2 rfl, obj_cell h2 rfl, obj_cell h2 rfl, obj_cell h2 rfl, obj_cell h2 rfl, obj_cell h2 rfl, obj_cell h2 rfl, obj_cell h2 rfl⟩
      have hWB : Below w.heap.size w (wr.alloc (.cells #[.int .i64 x.d.id, .int .i64 x.d.a, .int .i64 x.d.b, .int .i64 x.d.sc, .int .i64 x.d.bc, .int .i64 x.d.s, .int .i64 x.d.t, .int .i64 x.st, .bool x.byA, .bool x.byB, .int .i64 x.nth] 61)) := hB.out.trans (((Below.refl wr.heap.size wr).alloc (Nat.le_refl _) _).mono hB.out.size)
      have hask9 : ∀ w2 : World, Calls Tryd.prog 33 #[Value.agg #[Value.int IntKind.i64 x.d.id, Value.int IntKind.i64 x.d.a, Value.int IntKind.i64 x.d.b, Value.int IntKind.i64 x.d.sc, Value.int IntKind.i64 x.d.bc, Value.int IntKind.i64 x.d.s, Value.int IntKind.i64 x.d.t, Value.int IntKind.i64 x.st, Value.bool x.byA, Value.bool x.byB, Value.int IntKind.i64 x.nth]] w2 fun e w' => e = .returned (.int .i64 x.ask) ∧ Below w2.heap.size w2 w' := fun w2 => asked_any x w2 hak.1 hak.2
      have hl1 : ∀ w2 : World, Calls Tryd.prog 32 #[.int .i64 x.d.id, .int .i64 4] w2 fun e w' => e = .returned (.string ⟨(bes 4 (toU x.d.id)).toArray⟩) ∧ Below w2.heap.size w2 w' := fun w2 => rlay_any x.d.id 4 w2 (by omega)
      have hl2 : ∀ w2 : World, Calls Tryd.prog 32 #[.int .i64 x.d.a, .int .i64 1] w2 fun e w' => e = .returned (.string ⟨(bes 1 (toU x.d.a)).toArray⟩) ∧ Below w2.heap.size w2 w' := fun w2 => rlay_any x.d.a 1 w2 (by omega)
      have hl3 : ∀ w2 : World, Calls Tryd.prog 32 #[.int .i64 x.d.b, .int .i64 1] w2 fun e w' => e = .returned (.string ⟨(bes 1 (toU x.d.b)).toArray⟩) ∧ Below w2.heap.size w2 w' := fun w2 => rlay_any x.d.b 1 w2 (by omega)
      have hl4 : ∀ w2 : World, Calls Tryd.prog 32 #[.int .i64 x.d.sc, .int .i64 1] w2 fun e w' => e = .returned (.string ⟨(bes 1 (toU x.d.sc)).toArray⟩) ∧ Below w2.heap.size w2 w' := fun w2 => rlay_any x.d.sc 1 w2 (by omega)
      have hl5 : ∀ w2 : World, Calls Tryd.prog 32 #[.int .i64 x.d.bc, .int .i64 1] w2 fun e w' => e = .returned (.string ⟨(bes 1 (toU x.d.bc)).toArray⟩) ∧ Below w2.heap.size w2 w' := fun w2 => rlay_any x.d.bc 1 w2 (by omega)
      have hl6 : ∀ w2 : World, Calls Tryd.prog 32 #[.int .i64 x.d.s, .int .i64 8] w2 fun e w' => e = .returned (.string ⟨(bes 8 (toU x.d.s)).toArray⟩) ∧ Below w2.heap.size w2 w' := fun w2 => rlay_any x.d.s 8 w2 (by omega)
      have hl7 : ∀ w2 : World, Calls Tryd.prog 32 #[.int .i64 x.d.t, .int .i64 8] w2 fun e w' => e = .returned (.string ⟨(bes 8 (toU x.d.t)).toArray⟩) ∧ Below w2.heap.size w2 w' := fun w2 => rlay_any x.d.t 8 w2 (by omega)
      have hl8 : ∀ w2 : World, Calls Tryd.prog 32 #[.int .i64 x.st, .int .i64 1] w2 fun e w' => e = .returned (.string ⟨(bes 1 (toU x.st)).toArray⟩) ∧ Below w2.heap.size w2 w' := fun w2 => rlay_any x.st 1 w2 (by omega)
      have hl9 : ∀ w2 : World, Calls Tryd.prog 32 #[.int .i64 x.ask, .int .i64 1] w2 fun e w' => e = .returned (.string ⟨(bes 1 (toU x.ask)).toArray⟩) ∧ Below w2.heap.size w2 w' := fun w2 => rlay_any x.ask 1 w2 (by omega)
      have hl10 : ∀ w2 : World, Calls Tryd.prog 32 #[.int .i64 x.nth, .int .i64 2] w2 fun e w' => e = .returned (.string ⟨(bes 2 (toU x.nth)).toArray⟩) ∧ Below w2.heap.size w2 w' := fun w2 => rlay_any x.nth 2 w2 (by omega)
      obtain ⟨T1, hT1⟩ : ∃ T : ByteArray, T = ⟨(bes 4 (toU x.d.id)).toArray⟩ := ⟨_, rfl⟩
      rw [← hT1] at hl1
      obtain ⟨T2, hT2⟩ : ∃ T : ByteArray, T = ⟨(bes 1 (toU x.d.a)).toArray⟩ := ⟨_, rfl⟩
      rw [← hT2] at hl2
      obtain ⟨T3, hT3⟩ : ∃ T : ByteArray, T = ⟨(bes 1 (toU x.d.b)).toArray⟩ := ⟨_, rfl⟩
      rw [← hT3] at hl3
      obtain ⟨T4, hT4⟩ : ∃ T : ByteArray, T = ⟨(bes 1 (toU x.d.sc)).toArray⟩ := ⟨_, rfl⟩
      rw [← hT4] at hl4
      obtain ⟨T5, hT5⟩ : ∃ T : ByteArray, T = ⟨(bes 1 (toU x.d.bc)).toArray⟩ := ⟨_, rfl⟩
      rw [← hT5] at hl5
      obtain ⟨T6, hT6⟩ : ∃ T : ByteArray, T = ⟨(bes 8 (toU x.d.s)).toArray⟩ := ⟨_, rfl⟩
      rw [← hT6] at hl6
      obtain ⟨T7, hT7⟩ : ∃ T : ByteArray, T = ⟨(bes 8 (toU x.d.t)).toArray⟩ := ⟨_, rfl⟩
      rw [← hT7] at hl7
      obtain ⟨T8, hT8⟩ : ∃ T : ByteArray, T = ⟨(bes 1 (toU x.st)).toArray⟩ := ⟨_, rfl⟩
      rw [← hT8] at hl8
      obtain ⟨T9, hT9⟩ : ∃ T : ByteArray, T = ⟨(bes 1 (toU x.ask)).toArray⟩ := ⟨_, rfl⟩
      rw [← hT9] at hl9
      obtain ⟨T10, hT10⟩ : ∃ T : ByteArray, T = ⟨(bes 2 (toU x.nth)).toArray⟩ := ⟨_, rfl⟩
      rw [← hT10] at hl10
      have hall : Hid (((((((((((S0 ++ T1) ++ T2) ++ T3) ++ T4) ++ T5) ++ T6) ++ T7) ++ T8) ++ T9) ++ T10) = ⟨(A ++ entB x).toArray⟩) := Lib.hid (by rw [hS0, hT1, hT2, hT3, hT4, hT5, hT6, hT7, hT8, hT9, hT10]; simp only [text_join]; simp [entB, entK, sz, En.num]; rfl)
      have hz0 : S0.size ≤ 100000 := by rw [hS0, text_size]; exact hAl
      have hz1 : T1.size = 4 := by rw [hT1, text_size, bes_length]
      have hz2 : T2.size = 1 := by rw [hT2, text_size, bes_length]
      have hz3 : T3.size = 1 := by rw [hT3, text_size, bes_length]
      have hz4 : T4.size = 1 := by rw [hT4, text_size, bes_length]
      have hz5 : T5.size = 1 := by rw [hT5, text_size, bes_length]
      have hz6 : T6.size = 8 := by rw [hT6, text_size, bes_length]
      have hz7 : T7.size = 8 := by rw [hT7, text_size, bes_length]
      have hz8 : T8.size = 1 := by rw [hT8, text_size, bes_length]
      have hz9 : T9.size = 1 := by rw [hT9, text_size, bes_length]
      have hz10 : T10.size = 2 := by rw [hT10, text_size, bes_length]
      have hq1 : Hid ((¬ 9223372036854775807 < S0.size + T1.size) ∧ ¬ 9223372036854775807 < S0.size + T1.size) := Lib.hid (by constructor <;> (try simp only [ByteArray.size_append]) <;> omega)
      have hq2 : Hid ((¬ 9223372036854775807 < (S0 ++ T1).size + T2.size) ∧ ¬ 9223372036854775807 < S0.size + T1.size + T2.size) := Lib.hid (by constructor <;> (try simp only [ByteArray.size_append]) <;> omega)
      have hq3 : Hid ((¬ 9223372036854775807 < ((S0 ++ T1) ++ T2).size + T3.size) ∧ ¬ 9223372036854775807 < S0.size + T1.size + T2.size + T3.size) := Lib.hid (by constructor <;> (try simp only [ByteArray.size_append]) <;> omega)
      have hq4 : Hid ((¬ 9223372036854775807 < (((S0 ++ T1) ++ T2) ++ T3).size + T4.size) ∧ ¬ 9223372036854775807 < S0.size + T1.size + T2.size + T3.size + T4.size) := Lib.hid (by constructor <;> (try simp only [ByteArray.size_append]) <;> omega)
      have hq5 : Hid ((¬ 9223372036854775807 < ((((S0 ++ T1) ++ T2) ++ T3) ++ T4).size + T5.size) ∧ ¬ 9223372036854775807 < S0.size + T1.size + T2.size + T3.size + T4.size + T5.size) := Lib.hid (by constructor <;> (try simp only [ByteArray.size_append]) <;> omega)
      have hq6 : Hid ((¬ 9223372036854775807 < (((((S0 ++ T1) ++ T2) ++ T3) ++ T4) ++ T5).size + T6.size) ∧ ¬ 9223372036854775807 < S0.size + T1.size + T2.size + T3.size + T4.size + T5.size + T6.size) := Lib.hid (by constructor <;> (try simp only [ByteArray.size_append]) <;> omega)
      have hq7 : Hid ((¬ 9223372036854775807 < ((((((S0 ++ T1) ++ T2) ++ T3) ++ T4) ++ T5) ++ T6).size + T7.size) ∧ ¬ 9223372036854775807 < S0.size + T1.size + T2.size + T3.size + T4.size + T5.size + T6.size + T7.size) := Lib.hid (by constructor <;> (try simp only [ByteArray.size_append]) <;> omega)
      have hq8 : Hid ((¬ 9223372036854775807 < (((((((S0 ++ T1) ++ T2) ++ T3) ++ T4) ++ T5) ++ T6) ++ T7).size + T8.size) ∧ ¬ 9223372036854775807 < S0.size + T1.size + T2.size + T3.size + T4.size + T5.size + T6.size + T7.size + T8.size) := Lib.hid (by constructor <;> (try simp only [ByteArray.size_append]) <;> omega)
      have hq9 : Hid ((¬ 9223372036854775807 < ((((((((S0 ++ T1) ++ T2) ++ T3) ++ T4) ++ T5) ++ T6) ++ T7) ++ T8).size + T9.size) ∧ ¬ 9223372036854775807 < S0.size + T1.size + T2.size + T3.size + T4.size + T5.size + T6.size + T7.size + T8.size + T9.size) := Lib.hid (by constructor <;> (try simp only [ByteArray.size_append]) <;> omega)
      have hq10 : Hid ((¬ 9223372036854775807 < (((((((((S0 ++ T1) ++ T2) ++ T3) ++ T4) ++ T5) ++ T6) ++ T7) ++ T8) ++ T9).size + T10.size) ∧ ¬ 9223372036854775807 < S0.size + T1.size + T2.size + T3.size + T4.size + T5.size + T6.size + T7.size + T8.size + T9.size + T10.size) := Lib.hid (by constructor <;> (try simp only [ByteArray.size_append]) <;> omega)
      clear hz0 hz1 hz2 hz3 hz4 hz5 hz6 hz7 hz8 hz9 hz10
      replace hT1 := Lib.hid hT1
      replace hl1 := Lib.hid hl1
      replace hT2 := Lib.hid hT2
      replace hl2 := Lib.hid hl2
      replace hT3 := Lib.hid hT3
      replace hl3 := Lib.hid hl3
      replace hT4 := Lib.hid hT4
      replace hl4 := Lib.hid hl4
      replace hT5 := Lib.hid hT5
      replace hl5 := Lib.hid hl5
      replace hT6 := Lib.hid hT6
      replace hl6 := Lib.hid hl6
      replace hT7 := Lib.hid hT7
      replace hl7 := Lib.hid hl7
      replace hT8 := Lib.hid hT8
      replace hl8 := Lib.hid hl8
      replace hT9 := Lib.hid hT9
      replace hl9 := Lib.hid hl9
      replace hT10 := Lib.hid hT10
      replace hl10 := Lib.hid hl10
      replace hS0 := Lib.hid hS0
      replace hcell := Lib.hid hcell
      replace hWB := Lib.hid hWB
      replace hask9 := Lib.hid hask9
      replace hak := Lib.hid hak
      replace hAl := Lib.hid hAl
      go_upto_region 6 with fail
      generalize wr.alloc _ = W at *
      refine wp_region_closed (by kernel_rfl) (fun L az wz => ∃ v3 v28 v29 v30 v31 v32 v33 v34 v35 v36 v37 v38 v39 v40 v41 v42 v43 v44 v45 v46 v47 v48 v49 v50 v51 v52 v53 : Value, az = ({ tmps := (Value.pointer (some ⟨rb, 0, none⟩) :: undef :: Value.string { data := #[] } :: v3 :: Value.int IntKind.i64 (k : Int) :: Value.pointer (some ⟨wr.heap.size, 0, none⟩) :: Value.pointer (some ⟨rb, 0, none⟩) :: Value.pointer (some ⟨rb, 0, none⟩) :: Value.pointer (some ⟨rb, 2, none⟩) :: Value.slice (some ⟨g, 0, none⟩) n cap :: Value.int IntKind.i64 (n : Int) :: Value.string ⟨(bes 2 (toU (n : Nat))).toArray⟩ :: Value.int IntKind.i64 (k : Int) :: Value.pointer (some ⟨rb, 0, none⟩) :: Value.pointer (some ⟨rb, 0, none⟩) :: Value.pointer (some ⟨rb, 2, none⟩) :: Value.slice (some ⟨g, 0, none⟩) n cap :: Value.int IntKind.i64 (n : Int) :: Value.bool true :: u19 :: u20 :: Value.pointer (some ⟨rb, 0, none⟩) :: Value.pointer (some ⟨rb, 0, none⟩) :: Value.pointer (some ⟨rb, 2, none⟩) :: Value.slice (some ⟨g, 0, none⟩) n cap :: Value.int IntKind.i64 (k : Int) :: Value.pointer (some ⟨g, k * 11, none⟩) :: Value.agg #[Value.int IntKind.i64 x.d.id, Value.int IntKind.i64 x.d.a, Value.int IntKind.i64 x.d.b, Value.int IntKind.i64 x.d.sc, Value.int IntKind.i64 x.d.bc, Value.int IntKind.i64 x.d.s, Value.int IntKind.i64 x.d.t, Value.int IntKind.i64 x.st, Value.bool x.byA, Value.bool x.byB, Value.int IntKind.i64 x.nth] :: v28 :: v29 :: v30 :: v31 :: v32 :: v33 :: v34 :: v35 :: v36 :: v37 :: v38 :: v39 :: v40 :: v41 :: v42 :: v43 :: v44 :: v45 :: v46 :: v47 :: v48 :: v49 :: v50 :: v51 :: v52 :: v53 :: u54 :: u55 :: u56 :: u57 :: u58 :: u59 :: u60 :: u61 :: u62 :: u63 :: u64 :: u65 :: u66 :: u67 :: u68 :: u69 :: u70 :: u71 :: u72 :: u73 :: u74 :: u75 :: u76 :: undef :: []).toArray, defers := [] } : Act) ∧ (Below W.heap.size W wz) ∧ (L 26 = false → v3 = Value.string S0) ∧ (L 26 = true → v3 = Value.string (((((S0 ++ T1) ++ T2) ++ T3) ++ T4) ++ T5)) ∧ (L 0 = true → v28 = Value.string S0) ∧ (L 1 = true → v29 = Value.pointer (some ⟨wr.heap.size, 0, none⟩)) ∧ (L 2 = true → v30 = Value.pointer (some ⟨wr.heap.size, 0, none⟩)) ∧ (L 3 = true → v31 = Value.int IntKind.i64 x.d.id) ∧ (L 4 = true → v32 = Value.string T1) ∧ (L 5 = true → v33 = Value.string (S0 ++ T1)) ∧ (L 6 = true → v34 = Value.pointer (some ⟨wr.heap.size, 0, none⟩)) ∧ (L 7 = true → v35 = Value.pointer (some ⟨wr.heap.size, 1, none⟩)) ∧ (L 8 = true → v36 = Value.int IntKind.i64 x.d.a) ∧ (L 9 = true → v37 = Value.string T2) ∧ (L 10 = true → v38 = Value.string ((S0 ++ T1) ++ T2)) ∧ (L 11 = true → v39 = Value.pointer (some ⟨wr.heap.size, 0, none⟩)) ∧ (L 12 = true → v40 = Value.pointer (some ⟨wr.heap.size, 2, none⟩)) ∧ (L 13 = true → v41 = Value.int IntKind.i64 x.d.b) ∧ (L 14 = true → v42 = Value.string T3) ∧ (L 15 = true → v43 = Value.string (((S0 ++ T1) ++ T2) ++ T3)) ∧ (L 16 = true → v44 = Value.pointer (some ⟨wr.heap.size, 0, none⟩)) ∧ (L 17 = true → v45 = Value.pointer (some ⟨wr.heap.size, 3, none⟩)) ∧ (L 18 = true → v46 = Value.int IntKind.i64 x.d.sc) ∧ (L 19 = true → v47 = Value.string T4) ∧ (L 20 = true → v48 = Value.string ((((S0 ++ T1) ++ T2) ++ T3) ++ T4)) ∧ (L 21 = true → v49 = Value.pointer (some ⟨wr.heap.size, 0, none⟩)) ∧ (L 22 = true → v50 = Value.pointer (some ⟨wr.heap.size, 4, none⟩)) ∧ (L 23 = true → v51 = Value.int IntKind.i64 x.d.bc) ∧ (L 24 = true → v52 = Value.string T5) ∧ (L 25 = true → v53 = Value.string (((((S0 ++ T1) ++ T2) ++ T3) ++ T4) ++ T5))) (by kernel_rfl) ?_ ?_ ?_
      · exact ⟨_, _, _, _, _, _, _, _, _, _, _, _, _, _, _, _, _, _, _, _, _, _, _, _, _, _, _, rfl, (Below.refl _ _).drew, fun _ => rfl, nofun, nofun, nofun, nofun, nofun, nofun, nofun, nofun, nofun, nofun, nofun, nofun, nofun, nofun, nofun, nofun, nofun, nofun, nofun, nofun, nofun, nofun, nofun, nofun, nofun, nofun, nofun⟩
      · intro L az wz iz hiz hni hI hdep hcl
        obtain ⟨v3, v28, v29, v30, v31, v32, v33, v34, v35, v36, v37, v38, v39, v40, v41, v42, v43, v44, v45, v46, v47, v48, v49, v50, v51, v52, v53, rfl, hB, h3, hz, k0, k1, k2, k3, k4, k5, k6, k7, k8, k9, k10, k11, k12, k13, k14, k15, k16, k17, k18, k19, k20, k21, k22, k23, k24, k25⟩ := hI
        have hcase : iz = 0 ∨ iz = 1 ∨ iz = 2 ∨ iz = 3 ∨ iz = 4 ∨ iz = 5 ∨ iz = 6 ∨ iz = 7 ∨ iz = 8 ∨ iz = 9 ∨ iz = 10 ∨ iz = 11 ∨ iz = 12 ∨ iz = 13 ∨ iz = 14 ∨ iz = 15 ∨ iz = 16 ∨ iz = 17 ∨ iz = 18 ∨ iz = 19 ∨ iz = 20 ∨ iz = 21 ∨ iz = 22 ∨ iz = 23 ∨ iz = 24 ∨ iz = 25 ∨ iz = 26 := by
          have hi2 : iz < 27 := hiz
          omega
        rcases hcase with rfl | rfl | rfl | rfl | rfl | rfl | rfl | rfl | rfl | rfl | rfl | rfl | rfl | rfl | rfl | rfl | rfl | rfl | rfl | rfl | rfl | rfl | rfl | rfl | rfl | rfl | rfl
        · -- 0
          have hf : L 26 = false := by
            cases h : L 26 with
            | false => rfl
            | true => have := hcl 26 h 0 (by decide +kernel); rw [hni] at this; cases this
          have e3 := h3 hf
          subst e3
          refine wpOp_step rfl fun Kz hKz => ?_
          go_simp
          exact hKz _ _ ⟨_, _, _, _, _, _, _, _, _, _, _, _, _, _, _, _, _, _, _, _, _, _, _, _, _, _, _, rfl, hB, fun f => h3 (add_nf f), fun e => hz (add_ne e (by decide)), fun _ => rfl, fun e => k1 (add_ne e (by decide)), fun e => k2 (add_ne e (by decide)), fun e => k3 (add_ne e (by decide)), fun e => k4 (add_ne e (by decide)), fun e => k5 (add_ne e (by decide)), fun e => k6 (add_ne e (by decide)), fun e => k7 (add_ne e (by decide)), fun e => k8 (add_ne e (by decide)), fun e => k9 (add_ne e (by decide)), fun e => k10 (add_ne e (by decide)), fun e => k11 (add_ne e (by decide)), fun e => k12 (add_ne e (by decide)), fun e => k13 (add_ne e (by decide)), fun e => k14 (add_ne e (by decide)), fun e => k15 (add_ne e (by decide)), fun e => k16 (add_ne e (by decide)), fun e => k17 (add_ne e (by decide)), fun e => k18 (add_ne e (by decide)), fun e => k19 (add_ne e (by decide)), fun e => k20 (add_ne e (by decide)), fun e => k21 (add_ne e (by decide)), fun e => k22 (add_ne e (by decide)), fun e => k23 (add_ne e (by decide)), fun e => k24 (add_ne e (by decide)), fun e => k25 (add_ne e (by decide))⟩
        · -- 1
          refine wpOp_step rfl fun Kz hKz => ?_
          go_simp
          exact hKz _ _ ⟨_, _, _, _, _, _, _, _, _, _, _, _, _, _, _, _, _, _, _, _, _, _, _, _, _, _, _, rfl, hB, fun f => h3 (add_nf f), fun e => hz (add_ne e (by decide)), fun e => k0 (add_ne e (by decide)), fun _ => rfl, fun e => k2 (add_ne e (by decide)), fun e => k3 (add_ne e (by decide)), fun e => k4 (add_ne e (by decide)), fun e => k5 (add_ne e (by decide)), fun e => k6 (add_ne e (by decide)), fun e => k7 (add_ne e (by decide)), fun e => k8 (add_ne e (by decide)), fun e => k9 (add_ne e (by decide)), fun e => k10 (add_ne e (by decide)), fun e => k11 (add_ne e (by decide)), fun e => k12 (add_ne e (by decide)), fun e => k13 (add_ne e (by decide)), fun e => k14 (add_ne e (by decide)), fun e => k15 (add_ne e (by decide)), fun e => k16 (add_ne e (by decide)), fun e => k17 (add_ne e (by decide)), fun e => k18 (add_ne e (by decide)), fun e => k19 (add_ne e (by decide)), fun e => k20 (add_ne e (by decide)), fun e => k21 (add_ne e (by decide)), fun e => k22 (add_ne e (by decide)), fun e => k23 (add_ne e (by decide)), fun e => k24 (add_ne e (by decide)), fun e => k25 (add_ne e (by decide))⟩
        · -- 2
          have e1 := k1 (hdep 1 (by decide +kernel))
          subst e1
          refine wpOp_step rfl fun Kz hKz => ?_
          go_simp
          exact hKz _ _ ⟨_, _, _, _, _, _, _, _, _, _, _, _, _, _, _, _, _, _, _, _, _, _, _, _, _, _, _, rfl, hB, fun f => h3 (add_nf f), fun e => hz (add_ne e (by decide)), fun e => k0 (add_ne e (by decide)), fun e => k1 (add_ne e (by decide)), fun _ => rfl, fun e => k3 (add_ne e (by decide)), fun e => k4 (add_ne e (by decide)), fun e => k5 (add_ne e (by decide)), fun e => k6 (add_ne e (by decide)), fun e => k7 (add_ne e (by decide)), fun e => k8 (add_ne e (by decide)), fun e => k9 (add_ne e (by decide)), fun e => k10 (add_ne e (by decide)), fun e => k11 (add_ne e (by decide)), fun e => k12 (add_ne e (by decide)), fun e => k13 (add_ne e (by decide)), fun e => k14 (add_ne e (by decide)), fun e => k15 (add_ne e (by decide)), fun e => k16 (add_ne e (by decide)), fun e => k17 (add_ne e (by decide)), fun e => k18 (add_ne e (by decide)), fun e => k19 (add_ne e (by decide)), fun e => k20 (add_ne e (by decide)), fun e => k21 (add_ne e (by decide)), fun e => k22 (add_ne e (by decide)), fun e => k23 (add_ne e (by decide)), fun e => k24 (add_ne e (by decide)), fun e => k25 (add_ne e (by decide))⟩
        · -- 3
          have e2 := k2 (hdep 2 (by decide +kernel))
          subst e2
          obtain ⟨z0, z1, z2, z3, z4, z5, z6, z7, z8, z9, z10⟩ := hcell.out wz hB
          refine wpOp_step rfl fun Kz hKz => ?_
          go_simp
          exact hKz _ _ ⟨_, _, _, _, _, _, _, _, _, _, _, _, _, _, _, _, _, _, _, _, _, _, _, _, _, _, _, rfl, hB, fun f => h3 (add_nf f), fun e => hz (add_ne e (by decide)), fun e => k0 (add_ne e (by decide)), fun e => k1 (add_ne e (by decide)), fun e => k2 (add_ne e (by decide)), fun _ => rfl, fun e => k4 (add_ne e (by decide)), fun e => k5 (add_ne e (by decide)), fun e => k6 (add_ne e (by decide)), fun e => k7 (add_ne e (by decide)), fun e => k8 (add_ne e (by decide)), fun e => k9 (add_ne e (by decide)), fun e => k10 (add_ne e (by decide)), fun e => k11 (add_ne e (by decide)), fun e => k12 (add_ne e (by decide)), fun e => k13 (add_ne e (by decide)), fun e => k14 (add_ne e (by decide)), fun e => k15 (add_ne e (by decide)), fun e => k16 (add_ne e (by decide)), fun e => k17 (add_ne e (by decide)), fun e => k18 (add_ne e (by decide)), fun e => k19 (add_ne e (by decide)), fun e => k20 (add_ne e (by decide)), fun e => k21 (add_ne e (by decide)), fun e => k22 (add_ne e (by decide)), fun e => k23 (add_ne e (by decide)), fun e => k24 (add_ne e (by decide)), fun e => k25 (add_ne e (by decide))⟩
        · -- 4
          have e3 := k3 (hdep 3 (by decide +kernel))
          subst e3
          refine wpOp_step rfl fun Kz hKz => ?_
          go_simp
          go_at_call 32
          refine (hl1.out wz).mono ?_
          rintro e w1 ⟨rfl, hb1⟩
          have hB2 := hB.trans (hb1.mono hB.size)
          go_simp
          exact hKz _ _ ⟨_, _, _, _, _, _, _, _, _, _, _, _, _, _, _, _, _, _, _, _, _, _, _, _, _, _, _, rfl, hB2, fun f => h3 (add_nf f), fun e => hz (add_ne e (by decide)), fun e => k0 (add_ne e (by decide)), fun e => k1 (add_ne e (by decide)), fun e => k2 (add_ne e (by decide)), fun e => k3 (add_ne e (by decide)), fun _ => rfl, fun e => k5 (add_ne e (by decide)), fun e => k6 (add_ne e (by decide)), fun e => k7 (add_ne e (by decide)), fun e => k8 (add_ne e (by decide)), fun e => k9 (add_ne e (by decide)), fun e => k10 (add_ne e (by decide)), fun e => k11 (add_ne e (by decide)), fun e => k12 (add_ne e (by decide)), fun e => k13 (add_ne e (by decide)), fun e => k14 (add_ne e (by decide)), fun e => k15 (add_ne e (by decide)), fun e => k16 (add_ne e (by decide)), fun e => k17 (add_ne e (by decide)), fun e => k18 (add_ne e (by decide)), fun e => k19 (add_ne e (by decide)), fun e => k20 (add_ne e (by decide)), fun e => k21 (add_ne e (by decide)), fun e => k22 (add_ne e (by decide)), fun e => k23 (add_ne e (by decide)), fun e => k24 (add_ne e (by decide)), fun e => k25 (add_ne e (by decide))⟩
        · -- 5
          have e0 := k0 (hdep 0 (by decide +kernel))
          subst e0
          have e4 := k4 (hdep 4 (by decide +kernel))
          subst e4
          obtain ⟨q1, q2⟩ := hq1.out
          refine wpOp_step rfl fun Kz hKz => ?_
          go_simp
          exact hKz _ _ ⟨_, _, _, _, _, _, _, _, _, _, _, _, _, _, _, _, _, _, _, _, _, _, _, _, _, _, _, rfl, hB, fun f => h3 (add_nf f), fun e => hz (add_ne e (by decide)), fun e => k0 (add_ne e (by decide)), fun e => k1 (add_ne e (by decide)), fun e => k2 (add_ne e (by decide)), fun e => k3 (add_ne e (by decide)), fun e => k4 (add_ne e (by decide)), fun _ => rfl, fun e => k6 (add_ne e (by decide)), fun e => k7 (add_ne e (by decide)), fun e => k8 (add_ne e (by decide)), fun e => k9 (add_ne e (by decide)), fun e => k10 (add_ne e (by decide)), fun e => k11 (add_ne e (by decide)), fun e => k12 (add_ne e (by decide)), fun e => k13 (add_ne e (by decide)), fun e => k14 (add_ne e (by decide)), fun e => k15 (add_ne e (by decide)), fun e => k16 (add_ne e (by decide)), fun e => k17 (add_ne e (by decide)), fun e => k18 (add_ne e (by decide)), fun e => k19 (add_ne e (by decide)), fun e => k20 (add_ne e (by decide)), fun e => k21 (add_ne e (by decide)), fun e => k22 (add_ne e (by decide)), fun e => k23 (add_ne e (by decide)), fun e => k24 (add_ne e (by decide)), fun e => k25 (add_ne e (by decide))⟩
        · -- 6
          refine wpOp_step rfl fun Kz hKz => ?_
          go_simp
          exact hKz _ _ ⟨_, _, _, _, _, _, _, _, _, _, _, _, _, _, _, _, _, _, _, _, _, _, _, _, _, _, _, rfl, hB, fun f => h3 (add_nf f), fun e => hz (add_ne e (by decide)), fun e => k0 (add_ne e (by decide)), fun e => k1 (add_ne e (by decide)), fun e => k2 (add_ne e (by decide)), fun e => k3 (add_ne e (by decide)), fun e => k4 (add_ne e (by decide)), fun e => k5 (add_ne e (by decide)), fun _ => rfl, fun e => k7 (add_ne e (by decide)), fun e => k8 (add_ne e (by decide)), fun e => k9 (add_ne e (by decide)), fun e => k10 (add_ne e (by decide)), fun e => k11 (add_ne e (by decide)), fun e => k12 (add_ne e (by decide)), fun e => k13 (add_ne e (by decide)), fun e => k14 (add_ne e (by decide)), fun e => k15 (add_ne e (by decide)), fun e => k16 (add_ne e (by decide)), fun e => k17 (add_ne e (by decide)), fun e => k18 (add_ne e (by decide)), fun e => k19 (add_ne e (by decide)), fun e => k20 (add_ne e (by decide)), fun e => k21 (add_ne e (by decide)), fun e => k22 (add_ne e (by decide)), fun e => k23 (add_ne e (by decide)), fun e => k24 (add_ne e (by decide)), fun e => k25 (add_ne e (by decide))⟩
        · -- 7
          have e6 := k6 (hdep 6 (by decide +kernel))
          subst e6
          refine wpOp_step rfl fun Kz hKz => ?_
          go_simp
          exact hKz _ _ ⟨_, _, _, _, _, _, _, _, _, _, _, _, _, _, _, _, _, _, _, _, _, _, _, _, _, _, _, rfl, hB, fun f => h3 (add_nf f), fun e => hz (add_ne e (by decide)), fun e => k0 (add_ne e (by decide)), fun e => k1 (add_ne e (by decide)), fun e => k2 (add_ne e (by decide)), fun e => k3 (add_ne e (by decide)), fun e => k4 (add_ne e (by decide)), fun e => k5 (add_ne e (by decide)), fun e => k6 (add_ne e (by decide)), fun _ => rfl, fun e => k8 (add_ne e (by decide)), fun e => k9 (add_ne e (by decide)), fun e => k10 (add_ne e (by decide)), fun e => k11 (add_ne e (by decide)), fun e => k12 (add_ne e (by decide)), fun e => k13 (add_ne e (by decide)), fun e => k14 (add_ne e (by decide)), fun e => k15 (add_ne e (by decide)), fun e => k16 (add_ne e (by decide)), fun e => k17 (add_ne e (by decide)), fun e => k18 (add_ne e (by decide)), fun e => k19 (add_ne e (by decide)), fun e => k20 (add_ne e (by decide)), fun e => k21 (add_ne e (by decide)), fun e => k22 (add_ne e (by decide)), fun e => k23 (add_ne e (by decide)), fun e => k24 (add_ne e (by decide)), fun e => k25 (add_ne e (by decide))⟩
        · -- 8
          have e7 := k7 (hdep 7 (by decide +kernel))
          subst e7
          obtain ⟨z0, z1, z2, z3, z4, z5, z6, z7, z8, z9, z10⟩ := hcell.out wz hB
          refine wpOp_step rfl fun Kz hKz => ?_
          go_simp
          exact hKz _ _ ⟨_, _, _, _, _, _, _, _, _, _, _, _, _, _, _, _, _, _, _, _, _, _, _, _, _, _, _, rfl, hB, fun f => h3 (add_nf f), fun e => hz (add_ne e (by decide)), fun e => k0 (add_ne e (by decide)), fun e => k1 (add_ne e (by decide)), fun e => k2 (add_ne e (by decide)), fun e => k3 (add_ne e (by decide)), fun e => k4 (add_ne e (by decide)), fun e => k5 (add_ne e (by decide)), fun e => k6 (add_ne e (by decide)), fun e => k7 (add_ne e (by decide)), fun _ => rfl, fun e => k9 (add_ne e (by decide)), fun e => k10 (add_ne e (by decide)), fun e => k11 (add_ne e (by decide)), fun e => k12 (add_ne e (by decide)), fun e => k13 (add_ne e (by decide)), fun e => k14 (add_ne e (by decide)), fun e => k15 (add_ne e (by decide)), fun e => k16 (add_ne e (by decide)), fun e => k17 (add_ne e (by decide)), fun e => k18 (add_ne e (by decide)), fun e => k19 (add_ne e (by decide)), fun e => k20 (add_ne e (by decide)), fun e => k21 (add_ne e (by decide)), fun e => k22 (add_ne e (by decide)), fun e => k23 (add_ne e (by decide)), fun e => k24 (add_ne e (by decide)), fun e => k25 (add_ne e (by decide))⟩
        · -- 9
          have e8 := k8 (hdep 8 (by decide +kernel))
          subst e8
          refine wpOp_step rfl fun Kz hKz => ?_
          go_simp
          go_at_call 32
          refine (hl2.out wz).mono ?_
          rintro e w1 ⟨rfl, hb1⟩
          have hB2 := hB.trans (hb1.mono hB.size)
          go_simp
          exact hKz _ _ ⟨_, _, _, _, _, _, _, _, _, _, _, _, _, _, _, _, _, _, _, _, _, _, _, _, _, _, _, rfl, hB2, fun f => h3 (add_nf f), fun e => hz (add_ne e (by decide)), fun e => k0 (add_ne e (by decide)), fun e => k1 (add_ne e (by decide)), fun e => k2 (add_ne e (by decide)), fun e => k3 (add_ne e (by decide)), fun e => k4 (add_ne e (by decide)), fun e => k5 (add_ne e (by decide)), fun e => k6 (add_ne e (by decide)), fun e => k7 (add_ne e (by decide)), fun e => k8 (add_ne e (by decide)), fun _ => rfl, fun e => k10 (add_ne e (by decide)), fun e => k11 (add_ne e (by decide)), fun e => k12 (add_ne e (by decide)), fun e => k13 (add_ne e (by decide)), fun e => k14 (add_ne e (by decide)), fun e => k15 (add_ne e (by decide)), fun e => k16 (add_ne e (by decide)), fun e => k17 (add_ne e (by decide)), fun e => k18 (add_ne e (by decide)), fun e => k19 (add_ne e (by decide)), fun e => k20 (add_ne e (by decide)), fun e => k21 (add_ne e (by decide)), fun e => k22 (add_ne e (by decide)), fun e => k23 (add_ne e (by decide)), fun e => k24 (add_ne e (by decide)), fun e => k25 (add_ne e (by decide))⟩
        · -- 10
          have e5 := k5 (hdep 5 (by decide +kernel))
          subst e5
          have e9 := k9 (hdep 9 (by decide +kernel))
          subst e9
          obtain ⟨q1, q2⟩ := hq2.out
          refine wpOp_step rfl fun Kz hKz => ?_
          go_simp
          exact hKz _ _ ⟨_, _, _, _, _, _, _, _, _, _, _, _, _, _, _, _, _, _, _, _, _, _, _, _, _, _, _, rfl, hB, fun f => h3 (add_nf f), fun e => hz (add_ne e (by decide)), fun e => k0 (add_ne e (by decide)), fun e => k1 (add_ne e (by decide)), fun e => k2 (add_ne e (by decide)), fun e => k3 (add_ne e (by decide)), fun e => k4 (add_ne e (by decide)), fun e => k5 (add_ne e (by decide)), fun e => k6 (add_ne e (by decide)), fun e => k7 (add_ne e (by decide)), fun e => k8 (add_ne e (by decide)), fun e => k9 (add_ne e (by decide)), fun _ => rfl, fun e => k11 (add_ne e (by decide)), fun e => k12 (add_ne e (by decide)), fun e => k13 (add_ne e (by decide)), fun e => k14 (add_ne e (by decide)), fun e => k15 (add_ne e (by decide)), fun e => k16 (add_ne e (by decide)), fun e => k17 (add_ne e (by decide)), fun e => k18 (add_ne e (by decide)), fun e => k19 (add_ne e (by decide)), fun e => k20 (add_ne e (by decide)), fun e => k21 (add_ne e (by decide)), fun e => k22 (add_ne e (by decide)), fun e => k23 (add_ne e (by decide)), fun e => k24 (add_ne e (by decide)), fun e => k25 (add_ne e (by decide))⟩
        · -- 11
          refine wpOp_step rfl fun Kz hKz => ?_
          go_simp
          exact hKz _ _ ⟨_, _, _, _, _, _, _, _, _, _, _, _, _, _, _, _, _, _, _, _, _, _, _, _, _, _, _, rfl, hB, fun f => h3 (add_nf f), fun e => hz (add_ne e (by decide)), fun e => k0 (add_ne e (by decide)), fun e => k1 (add_ne e (by decide)), fun e => k2 (add_ne e (by decide)), fun e => k3 (add_ne e (by decide)), fun e => k4 (add_ne e (by decide)), fun e => k5 (add_ne e (by decide)), fun e => k6 (add_ne e (by decide)), fun e => k7 (add_ne e (by decide)), fun e => k8 (add_ne e (by decide)), fun e => k9 (add_ne e (by decide)), fun e => k10 (add_ne e (by decide)), fun _ => rfl, fun e => k12 (add_ne e (by decide)), fun e => k13 (add_ne e (by decide)), fun e => k14 (add_ne e (by decide)), fun e => k15 (add_ne e (by decide)), fun e => k16 (add_ne e (by decide)), fun e => k17 (add_ne e (by decide)), fun e => k18 (add_ne e (by decide)), fun e => k19 (add_ne e (by decide)), fun e => k20 (add_ne e (by decide)), fun e => k21 (add_ne e (by decide)), fun e => k22 (add_ne e (by decide)), fun e => k23 (add_ne e (by decide)), fun e => k24 (add_ne e (by decide)), fun e => k25 (add_ne e (by decide))⟩
        · -- 12
          have e11 := k11 (hdep 11 (by decide +kernel))
          subst e11
          refine wpOp_step rfl fun Kz hKz => ?_
          go_simp
          exact hKz _ _ ⟨_, _, _, _, _, _, _, _, _, _, _, _, _, _, _, _, _, _, _, _, _, _, _, _, _, _, _, rfl, hB, fun f => h3 (add_nf f), fun e => hz (add_ne e (by decide)), fun e => k0 (add_ne e (by decide)), fun e => k1 (add_ne e (by decide)), fun e => k2 (add_ne e (by decide)), fun e => k3 (add_ne e (by decide)), fun e => k4 (add_ne e (by decide)), fun e => k5 (add_ne e (by decide)), fun e => k6 (add_ne e (by decide)), fun e => k7 (add_ne e (by decide)), fun e => k8 (add_ne e (by decide)), fun e => k9 (add_ne e (by decide)), fun e => k10 (add_ne e (by decide)), fun e => k11 (add_ne e (by decide)), fun _ => rfl, fun e => k13 (add_ne e (by decide)), fun e => k14 (add_ne e (by decide)), fun e => k15 (add_ne e (by decide)), fun e => k16 (add_ne e (by decide)), fun e => k17 (add_ne e (by decide)), fun e => k18 (add_ne e (by decide)), fun e => k19 (add_ne e (by decide)), fun e => k20 (add_ne e (by decide)), fun e => k21 (add_ne e (by decide)), fun e => k22 (add_ne e (by decide)), fun e => k23 (add_ne e (by decide)), fun e => k24 (add_ne e (by decide)), fun e => k25 (add_ne e (by decide))⟩
        · -- 13
          have e12 := k12 (hdep 12 (by decide +kernel))
          subst e12
          obtain ⟨z0, z1, z2, z3, z4, z5, z6, z7, z8, z9, z10⟩ := hcell.out wz hB
          refine wpOp_step rfl fun Kz hKz => ?_
          go_simp
          exact hKz _ _ ⟨_, _, _, _, _, _, _, _, _, _, _, _, _, _, _, _, _, _, _, _, _, _, _, _, _, _, _, rfl, hB, fun f => h3 (add_nf f), fun e => hz (add_ne e (by decide)), fun e => k0 (add_ne e (by decide)), fun e => k1 (add_ne e (by decide)), fun e => k2 (add_ne e (by decide)), fun e => k3 (add_ne e (by decide)), fun e => k4 (add_ne e (by decide)), fun e => k5 (add_ne e (by decide)), fun e => k6 (add_ne e (by decide)), fun e => k7 (add_ne e (by decide)), fun e => k8 (add_ne e (by decide)), fun e => k9 (add_ne e (by decide)), fun e => k10 (add_ne e (by decide)), fun e => k11 (add_ne e (by decide)), fun e => k12 (add_ne e (by decide)), fun _ => rfl, fun e => k14 (add_ne e (by decide)), fun e => k15 (add_ne e (by decide)), fun e => k16 (add_ne e (by decide)), fun e => k17 (add_ne e (by decide)), fun e => k18 (add_ne e (by decide)), fun e => k19 (add_ne e (by decide)), fun e => k20 (add_ne e (by decide)), fun e => k21 (add_ne e (by decide)), fun e => k22 (add_ne e (by decide)), fun e => k23 (add_ne e (by decide)), fun e => k24 (add_ne e (by decide)), fun e => k25 (add_ne e (by decide))⟩
        · -- 14
          have e13 := k13 (hdep 13 (by decide +kernel))
          subst e13
          refine wpOp_step rfl fun Kz hKz => ?_
          go_simp
          go_at_call 32
          refine (hl3.out wz).mono ?_
          rintro e w1 ⟨rfl, hb1⟩
          have hB2 := hB.trans (hb1.mono hB.size)
          go_simp
          exact hKz _ _ ⟨_, _, _, _, _, _, _, _, _, _, _, _, _, _, _, _, _, _, _, _, _, _, _, _, _, _, _, rfl, hB2, fun f => h3 (add_nf f), fun e => hz (add_ne e (by decide)), fun e => k0 (add_ne e (by decide)), fun e => k1 (add_ne e (by decide)), fun e => k2 (add_ne e (by decide)), fun e => k3 (add_ne e (by decide)), fun e => k4 (add_ne e (by decide)), fun e => k5 (add_ne e (by decide)), fun e => k6 (add_ne e (by decide)), fun e => k7 (add_ne e (by decide)), fun e => k8 (add_ne e (by decide)), fun e => k9 (add_ne e (by decide)), fun e => k10 (add_ne e (by decide)), fun e => k11 (add_ne e (by decide)), fun e => k12 (add_ne e (by decide)), fun e => k13 (add_ne e (by decide)), fun _ => rfl, fun e => k15 (add_ne e (by decide)), fun e => k16 (add_ne e (by decide)), fun e => k17 (add_ne e (by decide)), fun e => k18 (add_ne e (by decide)), fun e => k19 (add_ne e (by decide)), fun e => k20 (add_ne e (by decide)), fun e => k21 (add_ne e (by decide)), fun e => k22 (add_ne e (by decide)), fun e => k23 (add_ne e (by decide)), fun e => k24 (add_ne e (by decide)), fun e => k25 (add_ne e (by decide))⟩
        · -- 15
          have e10 := k10 (hdep 10 (by decide +kernel))
          subst e10
          have e14 := k14 (hdep 14 (by decide +kernel))
          subst e14
          obtain ⟨q1, q2⟩ := hq3.out
          refine wpOp_step rfl fun Kz hKz => ?_
          go_simp
          exact hKz _ _ ⟨_, _, _, _, _, _, _, _, _, _, _, _, _, _, _, _, _, _, _, _, _, _, _, _, _, _, _, rfl, hB, fun f => h3 (add_nf f), fun e => hz (add_ne e (by decide)), fun e => k0 (add_ne e (by decide)), fun e => k1 (add_ne e (by decide)), fun e => k2 (add_ne e (by decide)), fun e => k3 (add_ne e (by decide)), fun e => k4 (add_ne e (by decide)), fun e => k5 (add_ne e (by decide)), fun e => k6 (add_ne e (by decide)), fun e => k7 (add_ne e (by decide)), fun e => k8 (add_ne e (by decide)), fun e => k9 (add_ne e (by decide)), fun e => k10 (add_ne e (by decide)), fun e => k11 (add_ne e (by decide)), fun e => k12 (add_ne e (by decide)), fun e => k13 (add_ne e (by decide)), fun e => k14 (add_ne e (by decide)), fun _ => rfl, fun e => k16 (add_ne e (by decide)), fun e => k17 (add_ne e (by decide)), fun e => k18 (add_ne e (by decide)), fun e => k19 (add_ne e (by decide)), fun e => k20 (add_ne e (by decide)), fun e => k21 (add_ne e (by decide)), fun e => k22 (add_ne e (by decide)), fun e => k23 (add_ne e (by decide)), fun e => k24 (add_ne e (by decide)), fun e => k25 (add_ne e (by decide))⟩
        · -- 16
          refine wpOp_step rfl fun Kz hKz => ?_
          go_simp
          exact hKz _ _ ⟨_, _, _, _, _, _, _, _, _, _, _, _, _, _, _, _, _, _, _, _, _, _, _, _, _, _, _, rfl, hB, fun f => h3 (add_nf f), fun e => hz (add_ne e (by decide)), fun e => k0 (add_ne e (by decide)), fun e => k1 (add_ne e (by decide)), fun e => k2 (add_ne e (by decide)), fun e => k3 (add_ne e (by decide)), fun e => k4 (add_ne e (by decide)), fun e => k5 (add_ne e (by decide)), fun e => k6 (add_ne e (by decide)), fun e => k7 (add_ne e (by decide)), fun e => k8 (add_ne e (by decide)), fun e => k9 (add_ne e (by decide)), fun e => k10 (add_ne e (by decide)), fun e => k11 (add_ne e (by decide)), fun e => k12 (add_ne e (by decide)), fun e => k13 (add_ne e (by decide)), fun e => k14 (add_ne e (by decide)), fun e => k15 (add_ne e (by decide)), fun _ => rfl, fun e => k17 (add_ne e (by decide)), fun e => k18 (add_ne e (by decide)), fun e => k19 (add_ne e (by decide)), fun e => k20 (add_ne e (by decide)), fun e => k21 (add_ne e (by decide)), fun e => k22 (add_ne e (by decide)), fun e => k23 (add_ne e (by decide)), fun e => k24 (add_ne e (by decide)), fun e => k25 (add_ne e (by decide))⟩
        · -- 17
          have e16 := k16 (hdep 16 (by decide +kernel))
          subst e16
          refine wpOp_step rfl fun Kz hKz => ?_
          go_simp
          exact hKz _ _ ⟨_, _, _, _, _, _, _, _, _, _, _, _, _, _, _, _, _, _, _, _, _, _, _, _, _, _, _, rfl, hB, fun f => h3 (add_nf f), fun e => hz (add_ne e (by decide)), fun e => k0 (add_ne e (by decide)), fun e => k1 (add_ne e (by decide)), fun e => k2 (add_ne e (by decide)), fun e => k3 (add_ne e (by decide)), fun e => k4 (add_ne e (by decide)), fun e => k5 (add_ne e (by decide)), fun e => k6 (add_ne e (by decide)), fun e => k7 (add_ne e (by decide)), fun e => k8 (add_ne e (by decide)), fun e => k9 (add_ne e (by decide)), fun e => k10 (add_ne e (by decide)), fun e => k11 (add_ne e (by decide)), fun e => k12 (add_ne e (by decide)), fun e => k13 (add_ne e (by decide)), fun e => k14 (add_ne e (by decide)), fun e => k15 (add_ne e (by decide)), fun e => k16 (add_ne e (by decide)), fun _ => rfl, fun e => k18 (add_ne e (by decide)), fun e => k19 (add_ne e (by decide)), fun e => k20 (add_ne e (by decide)), fun e => k21 (add_ne e (by decide)), fun e => k22 (add_ne e (by decide)), fun e => k23 (add_ne e (by decide)), fun e => k24 (add_ne e (by decide)), fun e => k25 (add_ne e (by decide))⟩
        · -- 18
          have e17 := k17 (hdep 17 (by decide +kernel))
          subst e17
          obtain ⟨z0, z1, z2, z3, z4, z5, z6, z7, z8, z9, z10⟩ := hcell.out wz hB
          refine wpOp_step rfl fun Kz hKz => ?_
          go_simp
          exact hKz _ _ ⟨_, _, _, _, _, _, _, _, _, _, _, _, _, _, _, _, _, _, _, _, _, _, _, _, _, _, _, rfl, hB, fun f => h3 (add_nf f), fun e => hz (add_ne e (by decide)), fun e => k0 (add_ne e (by decide)), fun e => k1 (add_ne e (by decide)), fun e => k2 (add_ne e (by decide)), fun e => k3 (add_ne e (by decide)), fun e => k4 (add_ne e (by decide)), fun e => k5 (add_ne e (by decide)), fun e => k6 (add_ne e (by decide)), fun e => k7 (add_ne e (by decide)), fun e => k8 (add_ne e (by decide)), fun e => k9 (add_ne e (by decide)), fun e => k10 (add_ne e (by decide)), fun e => k11 (add_ne e (by decide)), fun e => k12 (add_ne e (by decide)), fun e => k13 (add_ne e (by decide)), fun e => k14 (add_ne e (by decide)), fun e => k15 (add_ne e (by decide)), fun e => k16 (add_ne e (by decide)), fun e => k17 (add_ne e (by decide)), fun _ => rfl, fun e => k19 (add_ne e (by decide)), fun e => k20 (add_ne e (by decide)), fun e => k21 (add_ne e (by decide)), fun e => k22 (add_ne e (by decide)), fun e => k23 (add_ne e (by decide)), fun e => k24 (add_ne e (by decide)), fun e => k25 (add_ne e (by decide))⟩
        · -- 19
          have e18 := k18 (hdep 18 (by decide +kernel))
          subst e18
          refine wpOp_step rfl fun Kz hKz => ?_
          go_simp
          go_at_call 32
          refine (hl4.out wz).mono ?_
          rintro e w1 ⟨rfl, hb1⟩
          have hB2 := hB.trans (hb1.mono hB.size)
          go_simp
          exact hKz _ _ ⟨_, _, _, _, _, _, _, _, _, _, _, _, _, _, _, _, _, _, _, _, _, _, _, _, _, _, _, rfl, hB2, fun f => h3 (add_nf f), fun e => hz (add_ne e (by decide)), fun e => k0 (add_ne e (by decide)), fun e => k1 (add_ne e (by decide)), fun e => k2 (add_ne e (by decide)), fun e => k3 (add_ne e (by decide)), fun e => k4 (add_ne e (by decide)), fun e => k5 (add_ne e (by decide)), fun e => k6 (add_ne e (by decide)), fun e => k7 (add_ne e (by decide)), fun e => k8 (add_ne e (by decide)), fun e => k9 (add_ne e (by decide)), fun e => k10 (add_ne e (by decide)), fun e => k11 (add_ne e (by decide)), fun e => k12 (add_ne e (by decide)), fun e => k13 (add_ne e (by decide)), fun e => k14 (add_ne e (by decide)), fun e => k15 (add_ne e (by decide)), fun e => k16 (add_ne e (by decide)), fun e => k17 (add_ne e (by decide)), fun e => k18 (add_ne e (by decide)), fun _ => rfl, fun e => k20 (add_ne e (by decide)), fun e => k21 (add_ne e (by decide)), fun e => k22 (add_ne e (by decide)), fun e => k23 (add_ne e (by decide)), fun e => k24 (add_ne e (by decide)), fun e => k25 (add_ne e (by decide))⟩
        · -- 20
          have e15 := k15 (hdep 15 (by decide +kernel))
          subst e15
          have e19 := k19 (hdep 19 (by decide +kernel))
          subst e19
          obtain ⟨q1, q2⟩ := hq4.out
          refine wpOp_step rfl fun Kz hKz => ?_
          go_simp
          exact hKz _ _ ⟨_, _, _, _, _, _, _, _, _, _, _, _, _, _, _, _, _, _, _, _, _, _, _, _, _, _, _, rfl, hB, fun f => h3 (add_nf f), fun e => hz (add_ne e (by decide)), fun e => k0 (add_ne e (by decide)), fun e => k1 (add_ne e (by decide)), fun e => k2 (add_ne e (by decide)), fun e => k3 (add_ne e (by decide)), fun e => k4 (add_ne e (by decide)), fun e => k5 (add_ne e (by decide)), fun e => k6 (add_ne e (by decide)), fun e => k7 (add_ne e (by decide)), fun e => k8 (add_ne e (by decide)), fun e => k9 (add_ne e (by decide)), fun e => k10 (add_ne e (by decide)), fun e => k11 (add_ne e (by decide)), fun e => k12 (add_ne e (by decide)), fun e => k13 (add_ne e (by decide)), fun e => k14 (add_ne e (by decide)), fun e => k15 (add_ne e (by decide)), fun e => k16 (add_ne e (by decide)), fun e => k17 (add_ne e (by decide)), fun e => k18 (add_ne e (by decide)), fun e => k19 (add_ne e (by decide)), fun _ => rfl, fun e => k21 (add_ne e (by decide)), fun e => k22 (add_ne e (by decide)), fun e => k23 (add_ne e (by decide)), fun e => k24 (add_ne e (by decide)), fun e => k25 (add_ne e (by decide))⟩
        · -- 21
          refine wpOp_step rfl fun Kz hKz => ?_
          go_simp
          exact hKz _ _ ⟨_, _, _, _, _, _, _, _, _, _, _, _, _, _, _, _, _, _, _, _, _, _, _, _, _, _, _, rfl, hB, fun f => h3 (add_nf f), fun e => hz (add_ne e (by decide)), fun e => k0 (add_ne e (by decide)), fun e => k1 (add_ne e (by decide)), fun e => k2 (add_ne e (by decide)), fun e => k3 (add_ne e (by decide)), fun e => k4 (add_ne e (by decide)), fun e => k5 (add_ne e (by decide)), fun e => k6 (add_ne e (by decide)), fun e => k7 (add_ne e (by decide)), fun e => k8 (add_ne e (by decide)), fun e => k9 (add_ne e (by decide)), fun e => k10 (add_ne e (by decide)), fun e => k11 (add_ne e (by decide)), fun e => k12 (add_ne e (by decide)), fun e => k13 (add_ne e (by decide)), fun e => k14 (add_ne e (by decide)), fun e => k15 (add_ne e (by decide)), fun e => k16 (add_ne e (by decide)), fun e => k17 (add_ne e (by decide)), fun e => k18 (add_ne e (by decide)), fun e => k19 (add_ne e (by decide)), fun e => k20 (add_ne e (by decide)), fun _ => rfl, fun e => k22 (add_ne e (by decide)), fun e => k23 (add_ne e (by decide)), fun e => k24 (add_ne e (by decide)), fun e => k25 (add_ne e (by decide))⟩
        · -- 22
          have e21 := k21 (hdep 21 (by decide +kernel))
          subst e21
          refine wpOp_step rfl fun Kz hKz => ?_
          go_simp
          exact hKz _ _ ⟨_, _, _, _, _, _, _, _, _, _, _, _, _, _, _, _, _, _, _, _, _, _, _, _, _, _, _, rfl, hB, fun f => h3 (add_nf f), fun e => hz (add_ne e (by decide)), fun e => k0 (add_ne e (by decide)), fun e => k1 (add_ne e (by decide)), fun e => k2 (add_ne e (by decide)), fun e => k3 (add_ne e (by decide)), fun e => k4 (add_ne e (by decide)), fun e => k5 (add_ne e (by decide)), fun e => k6 (add_ne e (by decide)), fun e => k7 (add_ne e (by decide)), fun e => k8 (add_ne e (by decide)), fun e => k9 (add_ne e (by decide)), fun e => k10 (add_ne e (by decide)), fun e => k11 (add_ne e (by decide)), fun e => k12 (add_ne e (by decide)), fun e => k13 (add_ne e (by decide)), fun e => k14 (add_ne e (by decide)), fun e => k15 (add_ne e (by decide)), fun e => k16 (add_ne e (by decide)), fun e => k17 (add_ne e (by decide)), fun e => k18 (add_ne e (by decide)), fun e => k19 (add_ne e (by decide)), fun e => k20 (add_ne e (by decide)), fun e => k21 (add_ne e (by decide)), fun _ => rfl, fun e => k23 (add_ne e (by decide)), fun e => k24 (add_ne e (by decide)), fun e => k25 (add_ne e (by decide))⟩
        · -- 23
          have e22 := k22 (hdep 22 (by decide +kernel))
          subst e22
          obtain ⟨z0, z1, z2, z3, z4, z5, z6, z7, z8, z9, z10⟩ := hcell.out wz hB
          refine wpOp_step rfl fun Kz hKz => ?_
          go_simp
          exact hKz _ _ ⟨_, _, _, _, _, _, _, _, _, _, _, _, _, _, _, _, _, _, _, _, _, _, _, _, _, _, _, rfl, hB, fun f => h3 (add_nf f), fun e => hz (add_ne e (by decide)), fun e => k0 (add_ne e (by decide)), fun e => k1 (add_ne e (by decide)), fun e => k2 (add_ne e (by decide)), fun e => k3 (add_ne e (by decide)), fun e => k4 (add_ne e (by decide)), fun e => k5 (add_ne e (by decide)), fun e => k6 (add_ne e (by decide)), fun e => k7 (add_ne e (by decide)), fun e => k8 (add_ne e (by decide)), fun e => k9 (add_ne e (by decide)), fun e => k10 (add_ne e (by decide)), fun e => k11 (add_ne e (by decide)), fun e => k12 (add_ne e (by decide)), fun e => k13 (add_ne e (by decide)), fun e => k14 (add_ne e (by decide)), fun e => k15 (add_ne e (by decide)), fun e => k16 (add_ne e (by decide)), fun e => k17 (add_ne e (by decide)), fun e => k18 (add_ne e (by decide)), fun e => k19 (add_ne e (by decide)), fun e => k20 (add_ne e (by decide)), fun e => k21 (add_ne e (by decide)), fun e => k22 (add_ne e (by decide)), fun _ => rfl, fun e => k24 (add_ne e (by decide)), fun e => k25 (add_ne e (by decide))⟩
        · -- 24
          have e23 := k23 (hdep 23 (by decide +kernel))
          subst e23
          refine wpOp_step rfl fun Kz hKz => ?_
          go_simp
          go_at_call 32
          refine (hl5.out wz).mono ?_
          rintro e w1 ⟨rfl, hb1⟩
          have hB2 := hB.trans (hb1.mono hB.size)
          go_simp
          exact hKz _ _ ⟨_, _, _, _, _, _, _, _, _, _, _, _, _, _, _, _, _, _, _, _, _, _, _, _, _, _, _, rfl, hB2, fun f => h3 (add_nf f), fun e => hz (add_ne e (by decide)), fun e => k0 (add_ne e (by decide)), fun e => k1 (add_ne e (by decide)), fun e => k2 (add_ne e (by decide)), fun e => k3 (add_ne e (by decide)), fun e => k4 (add_ne e (by decide)), fun e => k5 (add_ne e (by decide)), fun e => k6 (add_ne e (by decide)), fun e => k7 (add_ne e (by decide)), fun e => k8 (add_ne e (by decide)), fun e => k9 (add_ne e (by decide)), fun e => k10 (add_ne e (by decide)), fun e => k11 (add_ne e (by decide)), fun e => k12 (add_ne e (by decide)), fun e => k13 (add_ne e (by decide)), fun e => k14 (add_ne e (by decide)), fun e => k15 (add_ne e (by decide)), fun e => k16 (add_ne e (by decide)), fun e => k17 (add_ne e (by decide)), fun e => k18 (add_ne e (by decide)), fun e => k19 (add_ne e (by decide)), fun e => k20 (add_ne e (by decide)), fun e => k21 (add_ne e (by decide)), fun e => k22 (add_ne e (by decide)), fun e => k23 (add_ne e (by decide)), fun _ => rfl, fun e => k25 (add_ne e (by decide))⟩
        · -- 25
          have e20 := k20 (hdep 20 (by decide +kernel))
          subst e20
          have e24 := k24 (hdep 24 (by decide +kernel))
          subst e24
          obtain ⟨q1, q2⟩ := hq5.out
          refine wpOp_step rfl fun Kz hKz => ?_
          go_simp
          exact hKz _ _ ⟨_, _, _, _, _, _, _, _, _, _, _, _, _, _, _, _, _, _, _, _, _, _, _, _, _, _, _, rfl, hB, fun f => h3 (add_nf f), fun e => hz (add_ne e (by decide)), fun e => k0 (add_ne e (by decide)), fun e => k1 (add_ne e (by decide)), fun e => k2 (add_ne e (by decide)), fun e => k3 (add_ne e (by decide)), fun e => k4 (add_ne e (by decide)), fun e => k5 (add_ne e (by decide)), fun e => k6 (add_ne e (by decide)), fun e => k7 (add_ne e (by decide)), fun e => k8 (add_ne e (by decide)), fun e => k9 (add_ne e (by decide)), fun e => k10 (add_ne e (by decide)), fun e => k11 (add_ne e (by decide)), fun e => k12 (add_ne e (by decide)), fun e => k13 (add_ne e (by decide)), fun e => k14 (add_ne e (by decide)), fun e => k15 (add_ne e (by decide)), fun e => k16 (add_ne e (by decide)), fun e => k17 (add_ne e (by decide)), fun e => k18 (add_ne e (by decide)), fun e => k19 (add_ne e (by decide)), fun e => k20 (add_ne e (by decide)), fun e => k21 (add_ne e (by decide)), fun e => k22 (add_ne e (by decide)), fun e => k23 (add_ne e (by decide)), fun e => k24 (add_ne e (by decide)), fun _ => rfl⟩
        · -- 26
          have e25 := k25 (hdep 25 (by decide +kernel))
          subst e25
          refine wpOp_step rfl fun Kz hKz => ?_
          go_simp
          exact hKz _ _ ⟨_, _, _, _, _, _, _, _, _, _, _, _, _, _, _, _, _, _, _, _, _, _, _, _, _, _, _, rfl, hB, fun f => (by rw [show add L 26 26 = true from add_iff.2 (.inr rfl)] at f; cases f), fun _ => rfl, fun e => k0 (add_ne e (by decide)), fun e => k1 (add_ne e (by decide)), fun e => k2 (add_ne e (by decide)), fun e => k3 (add_ne e (by decide)), fun e => k4 (add_ne e (by decide)), fun e => k5 (add_ne e (by decide)), fun e => k6 (add_ne e (by decide)), fun e => k7 (add_ne e (by decide)), fun e => k8 (add_ne e (by decide)), fun e => k9 (add_ne e (by decide)), fun e => k10 (add_ne e (by decide)), fun e => k11 (add_ne e (by decide)), fun e => k12 (add_ne e (by decide)), fun e => k13 (add_ne e (by decide)), fun e => k14 (add_ne e (by decide)), fun e => k15 (add_ne e (by decide)), fun e => k16 (add_ne e (by decide)), fun e => k17 (add_ne e (by decide)), fun e => k18 (add_ne e (by decide)), fun e => k19 (add_ne e (by decide)), fun e => k20 (add_ne e (by decide)), fun e => k21 (add_ne e (by decide)), fun e => k22 (add_ne e (by decide)), fun e => k23 (add_ne e (by decide)), fun e => k24 (add_ne e (by decide)), fun e => k25 (add_ne e (by decide))⟩
      · intro L az wz hI hL
        obtain ⟨v3, v28, v29, v30, v31, v32, v33, v34, v35, v36, v37, v38, v39, v40, v41, v42, v43, v44, v45, v46, v47, v48, v49, v50, v51, v52, v53, rfl, hB, h3, hz, k0, k1, k2, k3, k4, k5, k6, k7, k8, k9, k10, k11, k12, k13, k14, k15, k16, k17, k18, k19, k20, k21, k22, k23, k24, k25⟩ := hI
        have e3 := hz (hL 26 (by decide))
        subst e3
        have hB6 := hB
        clear hB
        clear h3 hz k0 k1 k2 k3 k4 k5 k6 k7 k8 k9 k10 k11 k12 k13 k14 k15 k16 k17 k18 k19 k20 k21 k22 k23 k24 k25 hL
        go_upto_region 7 with fail
        refine wp_region_closed (by kernel_rfl) (fun L az wz => ∃ v3 v54 v55 v56 v57 v58 v59 v60 v61 v62 v63 v64 v65 v66 v67 v68 v69 v70 v71 v72 v73 v74 v75 v76 : Value, az = ({ tmps := (Value.pointer (some ⟨rb, 0, none⟩) :: undef :: Value.string { data := #[] } :: v3 :: Value.int IntKind.i64 (k : Int) :: Value.pointer (some ⟨wr.heap.size, 0, none⟩) :: Value.pointer (some ⟨rb, 0, none⟩) :: Value.pointer (some ⟨rb, 0, none⟩) :: Value.pointer (some ⟨rb, 2, none⟩) :: Value.slice (some ⟨g, 0, none⟩) n cap :: Value.int IntKind.i64 (n : Int) :: Value.string ⟨(bes 2 (toU (n : Nat))).toArray⟩ :: Value.int IntKind.i64 (k : Int) :: Value.pointer (some ⟨rb, 0, none⟩) :: Value.pointer (some ⟨rb, 0, none⟩) :: Value.pointer (some ⟨rb, 2, none⟩) :: Value.slice (some ⟨g, 0, none⟩) n cap :: Value.int IntKind.i64 (n : Int) :: Value.bool true :: u19 :: u20 :: Value.pointer (some ⟨rb, 0, none⟩) :: Value.pointer (some ⟨rb, 0, none⟩) :: Value.pointer (some ⟨rb, 2, none⟩) :: Value.slice (some ⟨g, 0, none⟩) n cap :: Value.int IntKind.i64 (k : Int) :: Value.pointer (some ⟨g, k * 11, none⟩) :: Value.agg #[Value.int IntKind.i64 x.d.id, Value.int IntKind.i64 x.d.a, Value.int IntKind.i64 x.d.b, Value.int IntKind.i64 x.d.sc, Value.int IntKind.i64 x.d.bc, Value.int IntKind.i64 x.d.s, Value.int IntKind.i64 x.d.t, Value.int IntKind.i64 x.st, Value.bool x.byA, Value.bool x.byB, Value.int IntKind.i64 x.nth] :: v28 :: v29 :: v30 :: v31 :: v32 :: v33 :: v34 :: v35 :: v36 :: v37 :: v38 :: v39 :: v40 :: v41 :: v42 :: v43 :: v44 :: v45 :: v46 :: v47 :: v48 :: v49 :: v50 :: v51 :: v52 :: v53 :: v54 :: v55 :: v56 :: v57 :: v58 :: v59 :: v60 :: v61 :: v62 :: v63 :: v64 :: v65 :: v66 :: v67 :: v68 :: v69 :: v70 :: v71 :: v72 :: v73 :: v74 :: v75 :: v76 :: undef :: []).toArray, defers := [] } : Act) ∧ (Below W.heap.size W wz) ∧ (L 23 = false → v3 = Value.string (((((S0 ++ T1) ++ T2) ++ T3) ++ T4) ++ T5)) ∧ (L 23 = true → v3 = Value.string ((((((((((S0 ++ T1) ++ T2) ++ T3) ++ T4) ++ T5) ++ T6) ++ T7) ++ T8) ++ T9) ++ T10)) ∧ (L 0 = true → v54 = Value.string (((((S0 ++ T1) ++ T2) ++ T3) ++ T4) ++ T5)) ∧ (L 1 = true → v55 = Value.pointer (some ⟨wr.heap.size, 0, none⟩)) ∧ (L 2 = true → v56 = Value.pointer (some ⟨wr.heap.size, 5, none⟩)) ∧ (L 3 = true → v57 = Value.int IntKind.i64 x.d.s) ∧ (L 4 = true → v58 = Value.string T6) ∧ (L 5 = true → v59 = Value.string ((((((S0 ++ T1) ++ T2) ++ T3) ++ T4) ++ T5) ++ T6)) ∧ (L 6 = true → v60 = Value.pointer (some ⟨wr.heap.size, 0, none⟩)) ∧ (L 7 = true → v61 = Value.pointer (some ⟨wr.heap.size, 6, none⟩)) ∧ (L 8 = true → v62 = Value.int IntKind.i64 x.d.t) ∧ (L 9 = true → v63 = Value.string T7) ∧ (L 10 = true → v64 = Value.string (((((((S0 ++ T1) ++ T2) ++ T3) ++ T4) ++ T5) ++ T6) ++ T7)) ∧ (L 11 = true → v65 = Value.pointer (some ⟨wr.heap.size, 7, none⟩)) ∧ (L 12 = true → v66 = Value.int IntKind.i64 x.st) ∧ (L 13 = true → v67 = Value.string T8) ∧ (L 14 = true → v68 = Value.string ((((((((S0 ++ T1) ++ T2) ++ T3) ++ T4) ++ T5) ++ T6) ++ T7) ++ T8)) ∧ (L 15 = true → v69 = Value.agg #[Value.int IntKind.i64 x.d.id, Value.int IntKind.i64 x.d.a, Value.int IntKind.i64 x.d.b, Value.int IntKind.i64 x.d.sc, Value.int IntKind.i64 x.d.bc, Value.int IntKind.i64 x.d.s, Value.int IntKind.i64 x.d.t, Value.int IntKind.i64 x.st, Value.bool x.byA, Value.bool x.byB, Value.int IntKind.i64 x.nth]) ∧ (L 16 = true → v70 = Value.int IntKind.i64 x.ask) ∧ (L 17 = true → v71 = Value.string T9) ∧ (L 18 = true → v72 = Value.string (((((((((S0 ++ T1) ++ T2) ++ T3) ++ T4) ++ T5) ++ T6) ++ T7) ++ T8) ++ T9)) ∧ (L 19 = true → v73 = Value.pointer (some ⟨wr.heap.size, 10, none⟩)) ∧ (L 20 = true → v74 = Value.int IntKind.i64 x.nth) ∧ (L 21 = true → v75 = Value.string T10) ∧ (L 22 = true → v76 = Value.string ((((((((((S0 ++ T1) ++ T2) ++ T3) ++ T4) ++ T5) ++ T6) ++ T7) ++ T8) ++ T9) ++ T10))) (by kernel_rfl) ?_ ?_ ?_
        · exact ⟨_, _, _, _, _, _, _, _, _, _, _, _, _, _, _, _, _, _, _, _, _, _, _, _, rfl, hB6.drew, fun _ => rfl, nofun, nofun, nofun, nofun, nofun, nofun, nofun, nofun, nofun, nofun, nofun, nofun, nofun, nofun, nofun, nofun, nofun, nofun, nofun, nofun, nofun, nofun, nofun, nofun⟩
        · intro L az wz iz hiz hni hI hdep hcl
          obtain ⟨v3, v54, v55, v56, v57, v58, v59, v60, v61, v62, v63, v64, v65, v66, v67, v68, v69, v70, v71, v72, v73, v74, v75, v76, rfl, hB, h3, hz, k0, k1, k2, k3, k4, k5, k6, k7, k8, k9, k10, k11, k12, k13, k14, k15, k16, k17, k18, k19, k20, k21, k22⟩ := hI
          have hcase : iz = 0 ∨ iz = 1 ∨ iz = 2 ∨ iz = 3 ∨ iz = 4 ∨ iz = 5 ∨ iz = 6 ∨ iz = 7 ∨ iz = 8 ∨ iz = 9 ∨ iz = 10 ∨ iz = 11 ∨ iz = 12 ∨ iz = 13 ∨ iz = 14 ∨ iz = 15 ∨ iz = 16 ∨ iz = 17 ∨ iz = 18 ∨ iz = 19 ∨ iz = 20 ∨ iz = 21 ∨ iz = 22 ∨ iz = 23 := by
            have hi2 : iz < 24 := hiz
            omega
          rcases hcase with rfl | rfl | rfl | rfl | rfl | rfl | rfl | rfl | rfl | rfl | rfl | rfl | rfl | rfl | rfl | rfl | rfl | rfl | rfl | rfl | rfl | rfl | rfl | rfl
          · -- 0
            have hf : L 23 = false := by
              cases h : L 23 with
              | false => rfl
              | true => have := hcl 23 h 0 (by decide +kernel); rw [hni] at this; cases this
            have e3 := h3 hf
            subst e3
            refine wpOp_step rfl fun Kz hKz => ?_
            go_simp
            exact hKz _ _ ⟨_, _, _, _, _, _, _, _, _, _, _, _, _, _, _, _, _, _, _, _, _, _, _, _, rfl, hB, fun f => h3 (add_nf f), fun e => hz (add_ne e (by decide)), fun _ => rfl, fun e => k1 (add_ne e (by decide)), fun e => k2 (add_ne e (by decide)), fun e => k3 (add_ne e (by decide)), fun e => k4 (add_ne e (by decide)), fun e => k5 (add_ne e (by decide)), fun e => k6 (add_ne e (by decide)), fun e => k7 (add_ne e (by decide)), fun e => k8 (add_ne e (by decide)), fun e => k9 (add_ne e (by decide)), fun e => k10 (add_ne e (by decide)), fun e => k11 (add_ne e (by decide)), fun e => k12 (add_ne e (by decide)), fun e => k13 (add_ne e (by decide)), fun e => k14 (add_ne e (by decide)), fun e => k15 (add_ne e (by decide)), fun e => k16 (add_ne e (by decide)), fun e => k17 (add_ne e (by decide)), fun e => k18 (add_ne e (by decide)), fun e => k19 (add_ne e (by decide)), fun e => k20 (add_ne e (by decide)), fun e => k21 (add_ne e (by decide)), fun e => k22 (add_ne e (by decide))⟩
          · -- 1
            refine wpOp_step rfl fun Kz hKz => ?_
            go_simp
            exact hKz _ _ ⟨_, _, _, _, _, _, _, _, _, _, _, _, _, _, _, _, _, _, _, _, _, _, _, _, rfl, hB, fun f => h3 (add_nf f), fun e => hz (add_ne e (by decide)), fun e => k0 (add_ne e (by decide)), fun _ => rfl, fun e => k2 (add_ne e (by decide)), fun e => k3 (add_ne e (by decide)), fun e => k4 (add_ne e (by decide)), fun e => k5 (add_ne e (by decide)), fun e => k6 (add_ne e (by decide)), fun e => k7 (add_ne e (by decide)), fun e => k8 (add_ne e (by decide)), fun e => k9 (add_ne e (by decide)), fun e => k10 (add_ne e (by decide)), fun e => k11 (add_ne e (by decide)), fun e => k12 (add_ne e (by decide)), fun e => k13 (add_ne e (by decide)), fun e => k14 (add_ne e (by decide)), fun e => k15 (add_ne e (by decide)), fun e => k16 (add_ne e (by decide)), fun e => k17 (add_ne e (by decide)), fun e => k18 (add_ne e (by decide)), fun e => k19 (add_ne e (by decide)), fun e => k20 (add_ne e (by decide)), fun e => k21 (add_ne e (by decide)), fun e => k22 (add_ne e (by decide))⟩
          · -- 2
            have e1 := k1 (hdep 1 (by decide +kernel))
            subst e1
            refine wpOp_step rfl fun Kz hKz => ?_
            go_simp
            exact hKz _ _ ⟨_, _, _, _, _, _, _, _, _, _, _, _, _, _, _, _, _, _, _, _, _, _, _, _, rfl, hB, fun f => h3 (add_nf f), fun e => hz (add_ne e (by decide)), fun e => k0 (add_ne e (by decide)), fun e => k1 (add_ne e (by decide)), fun _ => rfl, fun e => k3 (add_ne e (by decide)), fun e => k4 (add_ne e (by decide)), fun e => k5 (add_ne e (by decide)), fun e => k6 (add_ne e (by decide)), fun e => k7 (add_ne e (by decide)), fun e => k8 (add_ne e (by decide)), fun e => k9 (add_ne e (by decide)), fun e => k10 (add_ne e (by decide)), fun e => k11 (add_ne e (by decide)), fun e => k12 (add_ne e (by decide)), fun e => k13 (add_ne e (by decide)), fun e => k14 (add_ne e (by decide)), fun e => k15 (add_ne e (by decide)), fun e => k16 (add_ne e (by decide)), fun e => k17 (add_ne e (by decide)), fun e => k18 (add_ne e (by decide)), fun e => k19 (add_ne e (by decide)), fun e => k20 (add_ne e (by decide)), fun e => k21 (add_ne e (by decide)), fun e => k22 (add_ne e (by decide))⟩
          · -- 3
            have e2 := k2 (hdep 2 (by decide +kernel))
            subst e2
            obtain ⟨z0, z1, z2, z3, z4, z5, z6, z7, z8, z9, z10⟩ := hcell.out wz hB
            refine wpOp_step rfl fun Kz hKz => ?_
            go_simp
            exact hKz _ _ ⟨_, _, _, _, _, _, _, _, _, _, _, _, _, _, _, _, _, _, _, _, _, _, _, _, rfl, hB, fun f => h3 (add_nf f), fun e => hz (add_ne e (by decide)), fun e => k0 (add_ne e (by decide)), fun e => k1 (add_ne e (by decide)), fun e => k2 (add_ne e (by decide)), fun _ => rfl, fun e => k4 (add_ne e (by decide)), fun e => k5 (add_ne e (by decide)), fun e => k6 (add_ne e (by decide)), fun e => k7 (add_ne e (by decide)), fun e => k8 (add_ne e (by decide)), fun e => k9 (add_ne e (by decide)), fun e => k10 (add_ne e (by decide)), fun e => k11 (add_ne e (by decide)), fun e => k12 (add_ne e (by decide)), fun e => k13 (add_ne e (by decide)), fun e => k14 (add_ne e (by decide)), fun e => k15 (add_ne e (by decide)), fun e => k16 (add_ne e (by decide)), fun e => k17 (add_ne e (by decide)), fun e => k18 (add_ne e (by decide)), fun e => k19 (add_ne e (by decide)), fun e => k20 (add_ne e (by decide)), fun e => k21 (add_ne e (by decide)), fun e => k22 (add_ne e (by decide))⟩
          · -- 4
            have e3 := k3 (hdep 3 (by decide +kernel))
            subst e3
            refine wpOp_step rfl fun Kz hKz => ?_
            go_simp
            go_at_call 32
            refine (hl6.out wz).mono ?_
            rintro e w1 ⟨rfl, hb1⟩
            have hB2 := hB.trans (hb1.mono hB.size)
            go_simp
            exact hKz _ _ ⟨_, _, _, _, _, _, _, _, _, _, _, _, _, _, _, _, _, _, _, _, _, _, _, _, rfl, hB2, fun f => h3 (add_nf f), fun e => hz (add_ne e (by decide)), fun e => k0 (add_ne e (by decide)), fun e => k1 (add_ne e (by decide)), fun e => k2 (add_ne e (by decide)), fun e => k3 (add_ne e (by decide)), fun _ => rfl, fun e => k5 (add_ne e (by decide)), fun e => k6 (add_ne e (by decide)), fun e => k7 (add_ne e (by decide)), fun e => k8 (add_ne e (by decide)), fun e => k9 (add_ne e (by decide)), fun e => k10 (add_ne e (by decide)), fun e => k11 (add_ne e (by decide)), fun e => k12 (add_ne e (by decide)), fun e => k13 (add_ne e (by decide)), fun e => k14 (add_ne e (by decide)), fun e => k15 (add_ne e (by decide)), fun e => k16 (add_ne e (by decide)), fun e => k17 (add_ne e (by decide)), fun e => k18 (add_ne e (by decide)), fun e => k19 (add_ne e (by decide)), fun e => k20 (add_ne e (by decide)), fun e => k21 (add_ne e (by decide)), fun e => k22 (add_ne e (by decide))⟩
          · -- 5
            have e0 := k0 (hdep 0 (by decide +kernel))
            subst e0
            have e4 := k4 (hdep 4 (by decide +kernel))
            subst e4
            obtain ⟨q1, q2⟩ := hq6.out
            refine wpOp_step rfl fun Kz hKz => ?_
            go_simp
            exact hKz _ _ ⟨_, _, _, _, _, _, _, _, _, _, _, _, _, _, _, _, _, _, _, _, _, _, _, _, rfl, hB, fun f => h3 (add_nf f), fun e => hz (add_ne e (by decide)), fun e => k0 (add_ne e (by decide)), fun e => k1 (add_ne e (by decide)), fun e => k2 (add_ne e (by decide)), fun e => k3 (add_ne e (by decide)), fun e => k4 (add_ne e (by decide)), fun _ => rfl, fun e => k6 (add_ne e (by decide)), fun e => k7 (add_ne e (by decide)), fun e => k8 (add_ne e (by decide)), fun e => k9 (add_ne e (by decide)), fun e => k10 (add_ne e (by decide)), fun e => k11 (add_ne e (by decide)), fun e => k12 (add_ne e (by decide)), fun e => k13 (add_ne e (by decide)), fun e => k14 (add_ne e (by decide)), fun e => k15 (add_ne e (by decide)), fun e => k16 (add_ne e (by decide)), fun e => k17 (add_ne e (by decide)), fun e => k18 (add_ne e (by decide)), fun e => k19 (add_ne e (by decide)), fun e => k20 (add_ne e (by decide)), fun e => k21 (add_ne e (by decide)), fun e => k22 (add_ne e (by decide))⟩
          · -- 6
            refine wpOp_step rfl fun Kz hKz => ?_
            go_simp
            exact hKz _ _ ⟨_, _, _, _, _, _, _, _, _, _, _, _, _, _, _, _, _, _, _, _, _, _, _, _, rfl, hB, fun f => h3 (add_nf f), fun e => hz (add_ne e (by decide)), fun e => k0 (add_ne e (by decide)), fun e => k1 (add_ne e (by decide)), fun e => k2 (add_ne e (by decide)), fun e => k3 (add_ne e (by decide)), fun e => k4 (add_ne e (by decide)), fun e => k5 (add_ne e (by decide)), fun _ => rfl, fun e => k7 (add_ne e (by decide)), fun e => k8 (add_ne e (by decide)), fun e => k9 (add_ne e (by decide)), fun e => k10 (add_ne e (by decide)), fun e => k11 (add_ne e (by decide)), fun e => k12 (add_ne e (by decide)), fun e => k13 (add_ne e (by decide)), fun e => k14 (add_ne e (by decide)), fun e => k15 (add_ne e (by decide)), fun e => k16 (add_ne e (by decide)), fun e => k17 (add_ne e (by decide)), fun e => k18 (add_ne e (by decide)), fun e => k19 (add_ne e (by decide)), fun e => k20 (add_ne e (by decide)), fun e => k21 (add_ne e (by decide)), fun e => k22 (add_ne e (by decide))⟩
          · -- 7
            have e6 := k6 (hdep 6 (by decide +kernel))
            subst e6
            refine wpOp_step rfl fun Kz hKz => ?_
            go_simp
            exact hKz _ _ ⟨_, _, _, _, _, _, _, _, _, _, _, _, _, _, _, _, _, _, _, _, _, _, _, _, rfl, hB, fun f => h3 (add_nf f), fun e => hz (add_ne e (by decide)), fun e => k0 (add_ne e (by decide)), fun e => k1 (add_ne e (by decide)), fun e => k2 (add_ne e (by decide)), fun e => k3 (add_ne e (by decide)), fun e => k4 (add_ne e (by decide)), fun e => k5 (add_ne e (by decide)), fun e => k6 (add_ne e (by decide)), fun _ => rfl, fun e => k8 (add_ne e (by decide)), fun e => k9 (add_ne e (by decide)), fun e => k10 (add_ne e (by decide)), fun e => k11 (add_ne e (by decide)), fun e => k12 (add_ne e (by decide)), fun e => k13 (add_ne e (by decide)), fun e => k14 (add_ne e (by decide)), fun e => k15 (add_ne e (by decide)), fun e => k16 (add_ne e (by decide)), fun e => k17 (add_ne e (by decide)), fun e => k18 (add_ne e (by decide)), fun e => k19 (add_ne e (by decide)), fun e => k20 (add_ne e (by decide)), fun e => k21 (add_ne e (by decide)), fun e => k22 (add_ne e (by decide))⟩
          · -- 8
            have e7 := k7 (hdep 7 (by decide +kernel))
            subst e7
            obtain ⟨z0, z1, z2, z3, z4, z5, z6, z7, z8, z9, z10⟩ := hcell.out wz hB
            refine wpOp_step rfl fun Kz hKz => ?_
            go_simp
            exact hKz _ _ ⟨_, _, _, _, _, _, _, _, _, _, _, _, _, _, _, _, _, _, _, _, _, _, _, _, rfl, hB, fun f => h3 (add_nf f), fun e => hz (add_ne e (by decide)), fun e => k0 (add_ne e (by decide)), fun e => k1 (add_ne e (by decide)), fun e => k2 (add_ne e (by decide)), fun e => k3 (add_ne e (by decide)), fun e => k4 (add_ne e (by decide)), fun e => k5 (add_ne e (by decide)), fun e => k6 (add_ne e (by decide)), fun e => k7 (add_ne e (by decide)), fun _ => rfl, fun e => k9 (add_ne e (by decide)), fun e => k10 (add_ne e (by decide)), fun e => k11 (add_ne e (by decide)), fun e => k12 (add_ne e (by decide)), fun e => k13 (add_ne e (by decide)), fun e => k14 (add_ne e (by decide)), fun e => k15 (add_ne e (by decide)), fun e => k16 (add_ne e (by decide)), fun e => k17 (add_ne e (by decide)), fun e => k18 (add_ne e (by decide)), fun e => k19 (add_ne e (by decide)), fun e => k20 (add_ne e (by decide)), fun e => k21 (add_ne e (by decide)), fun e => k22 (add_ne e (by decide))⟩
          · -- 9
            have e8 := k8 (hdep 8 (by decide +kernel))
            subst e8
            refine wpOp_step rfl fun Kz hKz => ?_
            go_simp
            go_at_call 32
            refine (hl7.out wz).mono ?_
            rintro e w1 ⟨rfl, hb1⟩
            have hB2 := hB.trans (hb1.mono hB.size)
            go_simp
            exact hKz _ _ ⟨_, _, _, _, _, _, _, _, _, _, _, _, _, _, _, _, _, _, _, _, _, _, _, _, rfl, hB2, fun f => h3 (add_nf f), fun e => hz (add_ne e (by decide)), fun e => k0 (add_ne e (by decide)), fun e => k1 (add_ne e (by decide)), fun e => k2 (add_ne e (by decide)), fun e => k3 (add_ne e (by decide)), fun e => k4 (add_ne e (by decide)), fun e => k5 (add_ne e (by decide)), fun e => k6 (add_ne e (by decide)), fun e => k7 (add_ne e (by decide)), fun e => k8 (add_ne e (by decide)), fun _ => rfl, fun e => k10 (add_ne e (by decide)), fun e => k11 (add_ne e (by decide)), fun e => k12 (add_ne e (by decide)), fun e => k13 (add_ne e (by decide)), fun e => k14 (add_ne e (by decide)), fun e => k15 (add_ne e (by decide)), fun e => k16 (add_ne e (by decide)), fun e => k17 (add_ne e (by decide)), fun e => k18 (add_ne e (by decide)), fun e => k19 (add_ne e (by decide)), fun e => k20 (add_ne e (by decide)), fun e => k21 (add_ne e (by decide)), fun e => k22 (add_ne e (by decide))⟩
          · -- 10
            have e5 := k5 (hdep 5 (by decide +kernel))
            subst e5
            have e9 := k9 (hdep 9 (by decide +kernel))
            subst e9
            obtain ⟨q1, q2⟩ := hq7.out
            refine wpOp_step rfl fun Kz hKz => ?_
            go_simp
            exact hKz _ _ ⟨_, _, _, _, _, _, _, _, _, _, _, _, _, _, _, _, _, _, _, _, _, _, _, _, rfl, hB, fun f => h3 (add_nf f), fun e => hz (add_ne e (by decide)), fun e => k0 (add_ne e (by decide)), fun e => k1 (add_ne e (by decide)), fun e => k2 (add_ne e (by decide)), fun e => k3 (add_ne e (by decide)), fun e => k4 (add_ne e (by decide)), fun e => k5 (add_ne e (by decide)), fun e => k6 (add_ne e (by decide)), fun e => k7 (add_ne e (by decide)), fun e => k8 (add_ne e (by decide)), fun e => k9 (add_ne e (by decide)), fun _ => rfl, fun e => k11 (add_ne e (by decide)), fun e => k12 (add_ne e (by decide)), fun e => k13 (add_ne e (by decide)), fun e => k14 (add_ne e (by decide)), fun e => k15 (add_ne e (by decide)), fun e => k16 (add_ne e (by decide)), fun e => k17 (add_ne e (by decide)), fun e => k18 (add_ne e (by decide)), fun e => k19 (add_ne e (by decide)), fun e => k20 (add_ne e (by decide)), fun e => k21 (add_ne e (by decide)), fun e => k22 (add_ne e (by decide))⟩
          · -- 11
            refine wpOp_step rfl fun Kz hKz => ?_
            go_simp
            exact hKz _ _ ⟨_, _, _, _, _, _, _, _, _, _, _, _, _, _, _, _, _, _, _, _, _, _, _, _, rfl, hB, fun f => h3 (add_nf f), fun e => hz (add_ne e (by decide)), fun e => k0 (add_ne e (by decide)), fun e => k1 (add_ne e (by decide)), fun e => k2 (add_ne e (by decide)), fun e => k3 (add_ne e (by decide)), fun e => k4 (add_ne e (by decide)), fun e => k5 (add_ne e (by decide)), fun e => k6 (add_ne e (by decide)), fun e => k7 (add_ne e (by decide)), fun e => k8 (add_ne e (by decide)), fun e => k9 (add_ne e (by decide)), fun e => k10 (add_ne e (by decide)), fun _ => rfl, fun e => k12 (add_ne e (by decide)), fun e => k13 (add_ne e (by decide)), fun e => k14 (add_ne e (by decide)), fun e => k15 (add_ne e (by decide)), fun e => k16 (add_ne e (by decide)), fun e => k17 (add_ne e (by decide)), fun e => k18 (add_ne e (by decide)), fun e => k19 (add_ne e (by decide)), fun e => k20 (add_ne e (by decide)), fun e => k21 (add_ne e (by decide)), fun e => k22 (add_ne e (by decide))⟩
          · -- 12
            have e11 := k11 (hdep 11 (by decide +kernel))
            subst e11
            obtain ⟨z0, z1, z2, z3, z4, z5, z6, z7, z8, z9, z10⟩ := hcell.out wz hB
            refine wpOp_step rfl fun Kz hKz => ?_
            go_simp
            exact hKz _ _ ⟨_, _, _, _, _, _, _, _, _, _, _, _, _, _, _, _, _, _, _, _, _, _, _, _, rfl, hB, fun f => h3 (add_nf f), fun e => hz (add_ne e (by decide)), fun e => k0 (add_ne e (by decide)), fun e => k1 (add_ne e (by decide)), fun e => k2 (add_ne e (by decide)), fun e => k3 (add_ne e (by decide)), fun e => k4 (add_ne e (by decide)), fun e => k5 (add_ne e (by decide)), fun e => k6 (add_ne e (by decide)), fun e => k7 (add_ne e (by decide)), fun e => k8 (add_ne e (by decide)), fun e => k9 (add_ne e (by decide)), fun e => k10 (add_ne e (by decide)), fun e => k11 (add_ne e (by decide)), fun _ => rfl, fun e => k13 (add_ne e (by decide)), fun e => k14 (add_ne e (by decide)), fun e => k15 (add_ne e (by decide)), fun e => k16 (add_ne e (by decide)), fun e => k17 (add_ne e (by decide)), fun e => k18 (add_ne e (by decide)), fun e => k19 (add_ne e (by decide)), fun e => k20 (add_ne e (by decide)), fun e => k21 (add_ne e (by decide)), fun e => k22 (add_ne e (by decide))⟩
          · -- 13
            have e12 := k12 (hdep 12 (by decide +kernel))
            subst e12
            refine wpOp_step rfl fun Kz hKz => ?_
            go_simp
            go_at_call 32
            refine (hl8.out wz).mono ?_
            rintro e w1 ⟨rfl, hb1⟩
            have hB2 := hB.trans (hb1.mono hB.size)
            go_simp
            exact hKz _ _ ⟨_, _, _, _, _, _, _, _, _, _, _, _, _, _, _, _, _, _, _, _, _, _, _, _, rfl, hB2, fun f => h3 (add_nf f), fun e => hz (add_ne e (by decide)), fun e => k0 (add_ne e (by decide)), fun e => k1 (add_ne e (by decide)), fun e => k2 (add_ne e (by decide)), fun e => k3 (add_ne e (by decide)), fun e => k4 (add_ne e (by decide)), fun e => k5 (add_ne e (by decide)), fun e => k6 (add_ne e (by decide)), fun e => k7 (add_ne e (by decide)), fun e => k8 (add_ne e (by decide)), fun e => k9 (add_ne e (by decide)), fun e => k10 (add_ne e (by decide)), fun e => k11 (add_ne e (by decide)), fun e => k12 (add_ne e (by decide)), fun _ => rfl, fun e => k14 (add_ne e (by decide)), fun e => k15 (add_ne e (by decide)), fun e => k16 (add_ne e (by decide)), fun e => k17 (add_ne e (by decide)), fun e => k18 (add_ne e (by decide)), fun e => k19 (add_ne e (by decide)), fun e => k20 (add_ne e (by decide)), fun e => k21 (add_ne e (by decide)), fun e => k22 (add_ne e (by decide))⟩
          · -- 14
            have e10 := k10 (hdep 10 (by decide +kernel))
            subst e10
            have e13 := k13 (hdep 13 (by decide +kernel))
            subst e13
            obtain ⟨q1, q2⟩ := hq8.out
            refine wpOp_step rfl fun Kz hKz => ?_
            go_simp
            exact hKz _ _ ⟨_, _, _, _, _, _, _, _, _, _, _, _, _, _, _, _, _, _, _, _, _, _, _, _, rfl, hB, fun f => h3 (add_nf f), fun e => hz (add_ne e (by decide)), fun e => k0 (add_ne e (by decide)), fun e => k1 (add_ne e (by decide)), fun e => k2 (add_ne e (by decide)), fun e => k3 (add_ne e (by decide)), fun e => k4 (add_ne e (by decide)), fun e => k5 (add_ne e (by decide)), fun e => k6 (add_ne e (by decide)), fun e => k7 (add_ne e (by decide)), fun e => k8 (add_ne e (by decide)), fun e => k9 (add_ne e (by decide)), fun e => k10 (add_ne e (by decide)), fun e => k11 (add_ne e (by decide)), fun e => k12 (add_ne e (by decide)), fun e => k13 (add_ne e (by decide)), fun _ => rfl, fun e => k15 (add_ne e (by decide)), fun e => k16 (add_ne e (by decide)), fun e => k17 (add_ne e (by decide)), fun e => k18 (add_ne e (by decide)), fun e => k19 (add_ne e (by decide)), fun e => k20 (add_ne e (by decide)), fun e => k21 (add_ne e (by decide)), fun e => k22 (add_ne e (by decide))⟩
          · -- 15
            obtain ⟨z0, z1, z2, z3, z4, z5, z6, z7, z8, z9, z10⟩ := hcell.out wz hB
            refine wpOp_step rfl fun Kz hKz => ?_
            go_simp
            exact hKz _ _ ⟨_, _, _, _, _, _, _, _, _, _, _, _, _, _, _, _, _, _, _, _, _, _, _, _, rfl, hB, fun f => h3 (add_nf f), fun e => hz (add_ne e (by decide)), fun e => k0 (add_ne e (by decide)), fun e => k1 (add_ne e (by decide)), fun e => k2 (add_ne e (by decide)), fun e => k3 (add_ne e (by decide)), fun e => k4 (add_ne e (by decide)), fun e => k5 (add_ne e (by decide)), fun e => k6 (add_ne e (by decide)), fun e => k7 (add_ne e (by decide)), fun e => k8 (add_ne e (by decide)), fun e => k9 (add_ne e (by decide)), fun e => k10 (add_ne e (by decide)), fun e => k11 (add_ne e (by decide)), fun e => k12 (add_ne e (by decide)), fun e => k13 (add_ne e (by decide)), fun e => k14 (add_ne e (by decide)), fun _ => rfl, fun e => k16 (add_ne e (by decide)), fun e => k17 (add_ne e (by decide)), fun e => k18 (add_ne e (by decide)), fun e => k19 (add_ne e (by decide)), fun e => k20 (add_ne e (by decide)), fun e => k21 (add_ne e (by decide)), fun e => k22 (add_ne e (by decide))⟩
          · -- 16
            have e15 := k15 (hdep 15 (by decide +kernel))
            subst e15
            refine wpOp_step rfl fun Kz hKz => ?_
            go_simp
            go_at_call 33
            refine (hask9.out wz).mono ?_
            rintro e w1 ⟨rfl, hb1⟩
            have hB2 := hB.trans (hb1.mono hB.size)
            go_simp
            exact hKz _ _ ⟨_, _, _, _, _, _, _, _, _, _, _, _, _, _, _, _, _, _, _, _, _, _, _, _, rfl, hB2, fun f => h3 (add_nf f), fun e => hz (add_ne e (by decide)), fun e => k0 (add_ne e (by decide)), fun e => k1 (add_ne e (by decide)), fun e => k2 (add_ne e (by decide)), fun e => k3 (add_ne e (by decide)), fun e => k4 (add_ne e (by decide)), fun e => k5 (add_ne e (by decide)), fun e => k6 (add_ne e (by decide)), fun e => k7 (add_ne e (by decide)), fun e => k8 (add_ne e (by decide)), fun e => k9 (add_ne e (by decide)), fun e => k10 (add_ne e (by decide)), fun e => k11 (add_ne e (by decide)), fun e => k12 (add_ne e (by decide)), fun e => k13 (add_ne e (by decide)), fun e => k14 (add_ne e (by decide)), fun e => k15 (add_ne e (by decide)), fun _ => rfl, fun e => k17 (add_ne e (by decide)), fun e => k18 (add_ne e (by decide)), fun e => k19 (add_ne e (by decide)), fun e => k20 (add_ne e (by decide)), fun e => k21 (add_ne e (by decide)), fun e => k22 (add_ne e (by decide))⟩
          · -- 17
            have e16 := k16 (hdep 16 (by decide +kernel))
            subst e16
            refine wpOp_step rfl fun Kz hKz => ?_
            go_simp
            go_at_call 32
            refine (hl9.out wz).mono ?_
            rintro e w1 ⟨rfl, hb1⟩
            have hB2 := hB.trans (hb1.mono hB.size)
            go_simp
            exact hKz _ _ ⟨_, _, _, _, _, _, _, _, _, _, _, _, _, _, _, _, _, _, _, _, _, _, _, _, rfl, hB2, fun f => h3 (add_nf f), fun e => hz (add_ne e (by decide)), fun e => k0 (add_ne e (by decide)), fun e => k1 (add_ne e (by decide)), fun e => k2 (add_ne e (by decide)), fun e => k3 (add_ne e (by decide)), fun e => k4 (add_ne e (by decide)), fun e => k5 (add_ne e (by decide)), fun e => k6 (add_ne e (by decide)), fun e => k7 (add_ne e (by decide)), fun e => k8 (add_ne e (by decide)), fun e => k9 (add_ne e (by decide)), fun e => k10 (add_ne e (by decide)), fun e => k11 (add_ne e (by decide)), fun e => k12 (add_ne e (by decide)), fun e => k13 (add_ne e (by decide)), fun e => k14 (add_ne e (by decide)), fun e => k15 (add_ne e (by decide)), fun e => k16 (add_ne e (by decide)), fun _ => rfl, fun e => k18 (add_ne e (by decide)), fun e => k19 (add_ne e (by decide)), fun e => k20 (add_ne e (by decide)), fun e => k21 (add_ne e (by decide)), fun e => k22 (add_ne e (by decide))⟩
          · -- 18
            have e14 := k14 (hdep 14 (by decide +kernel))
            subst e14
            have e17 := k17 (hdep 17 (by decide +kernel))
            subst e17
            obtain ⟨q1, q2⟩ := hq9.out
            refine wpOp_step rfl fun Kz hKz => ?_
            go_simp
            exact hKz _ _ ⟨_, _, _, _, _, _, _, _, _, _, _, _, _, _, _, _, _, _, _, _, _, _, _, _, rfl, hB, fun f => h3 (add_nf f), fun e => hz (add_ne e (by decide)), fun e => k0 (add_ne e (by decide)), fun e => k1 (add_ne e (by decide)), fun e => k2 (add_ne e (by decide)), fun e => k3 (add_ne e (by decide)), fun e => k4 (add_ne e (by decide)), fun e => k5 (add_ne e (by decide)), fun e => k6 (add_ne e (by decide)), fun e => k7 (add_ne e (by decide)), fun e => k8 (add_ne e (by decide)), fun e => k9 (add_ne e (by decide)), fun e => k10 (add_ne e (by decide)), fun e => k11 (add_ne e (by decide)), fun e => k12 (add_ne e (by decide)), fun e => k13 (add_ne e (by decide)), fun e => k14 (add_ne e (by decide)), fun e => k15 (add_ne e (by decide)), fun e => k16 (add_ne e (by decide)), fun e => k17 (add_ne e (by decide)), fun _ => rfl, fun e => k19 (add_ne e (by decide)), fun e => k20 (add_ne e (by decide)), fun e => k21 (add_ne e (by decide)), fun e => k22 (add_ne e (by decide))⟩
          · -- 19
            refine wpOp_step rfl fun Kz hKz => ?_
            go_simp
            exact hKz _ _ ⟨_, _, _, _, _, _, _, _, _, _, _, _, _, _, _, _, _, _, _, _, _, _, _, _, rfl, hB, fun f => h3 (add_nf f), fun e => hz (add_ne e (by decide)), fun e => k0 (add_ne e (by decide)), fun e => k1 (add_ne e (by decide)), fun e => k2 (add_ne e (by decide)), fun e => k3 (add_ne e (by decide)), fun e => k4 (add_ne e (by decide)), fun e => k5 (add_ne e (by decide)), fun e => k6 (add_ne e (by decide)), fun e => k7 (add_ne e (by decide)), fun e => k8 (add_ne e (by decide)), fun e => k9 (add_ne e (by decide)), fun e => k10 (add_ne e (by decide)), fun e => k11 (add_ne e (by decide)), fun e => k12 (add_ne e (by decide)), fun e => k13 (add_ne e (by decide)), fun e => k14 (add_ne e (by decide)), fun e => k15 (add_ne e (by decide)), fun e => k16 (add_ne e (by decide)), fun e => k17 (add_ne e (by decide)), fun e => k18 (add_ne e (by decide)), fun _ => rfl, fun e => k20 (add_ne e (by decide)), fun e => k21 (add_ne e (by decide)), fun e => k22 (add_ne e (by decide))⟩
          · -- 20
            have e19 := k19 (hdep 19 (by decide +kernel))
            subst e19
            obtain ⟨z0, z1, z2, z3, z4, z5, z6, z7, z8, z9, z10⟩ := hcell.out wz hB
            refine wpOp_step rfl fun Kz hKz => ?_
            go_simp
            exact hKz _ _ ⟨_, _, _, _, _, _, _, _, _, _, _, _, _, _, _, _, _, _, _, _, _, _, _, _, rfl, hB, fun f => h3 (add_nf f), fun e => hz (add_ne e (by decide)), fun e => k0 (add_ne e (by decide)), fun e => k1 (add_ne e (by decide)), fun e => k2 (add_ne e (by decide)), fun e => k3 (add_ne e (by decide)), fun e => k4 (add_ne e (by decide)), fun e => k5 (add_ne e (by decide)), fun e => k6 (add_ne e (by decide)), fun e => k7 (add_ne e (by decide)), fun e => k8 (add_ne e (by decide)), fun e => k9 (add_ne e (by decide)), fun e => k10 (add_ne e (by decide)), fun e => k11 (add_ne e (by decide)), fun e => k12 (add_ne e (by decide)), fun e => k13 (add_ne e (by decide)), fun e => k14 (add_ne e (by decide)), fun e => k15 (add_ne e (by decide)), fun e => k16 (add_ne e (by decide)), fun e => k17 (add_ne e (by decide)), fun e => k18 (add_ne e (by decide)), fun e => k19 (add_ne e (by decide)), fun _ => rfl, fun e => k21 (add_ne e (by decide)), fun e => k22 (add_ne e (by decide))⟩
          · -- 21
            have e20 := k20 (hdep 20 (by decide +kernel))
            subst e20
            refine wpOp_step rfl fun Kz hKz => ?_
            go_simp
            go_at_call 32
            refine (hl10.out wz).mono ?_
            rintro e w1 ⟨rfl, hb1⟩
            have hB2 := hB.trans (hb1.mono hB.size)
            go_simp
            exact hKz _ _ ⟨_, _, _, _, _, _, _, _, _, _, _, _, _, _, _, _, _, _, _, _, _, _, _, _, rfl, hB2, fun f => h3 (add_nf f), fun e => hz (add_ne e (by decide)), fun e => k0 (add_ne e (by decide)), fun e => k1 (add_ne e (by decide)), fun e => k2 (add_ne e (by decide)), fun e => k3 (add_ne e (by decide)), fun e => k4 (add_ne e (by decide)), fun e => k5 (add_ne e (by decide)), fun e => k6 (add_ne e (by decide)), fun e => k7 (add_ne e (by decide)), fun e => k8 (add_ne e (by decide)), fun e => k9 (add_ne e (by decide)), fun e => k10 (add_ne e (by decide)), fun e => k11 (add_ne e (by decide)), fun e => k12 (add_ne e (by decide)), fun e => k13 (add_ne e (by decide)), fun e => k14 (add_ne e (by decide)), fun e => k15 (add_ne e (by decide)), fun e => k16 (add_ne e (by decide)), fun e => k17 (add_ne e (by decide)), fun e => k18 (add_ne e (by decide)), fun e => k19 (add_ne e (by decide)), fun e => k20 (add_ne e (by decide)), fun _ => rfl, fun e => k22 (add_ne e (by decide))⟩
          · -- 22
            have e18 := k18 (hdep 18 (by decide +kernel))
            subst e18
            have e21 := k21 (hdep 21 (by decide +kernel))
            subst e21
            obtain ⟨q1, q2⟩ := hq10.out
            refine wpOp_step rfl fun Kz hKz => ?_
            go_simp
            exact hKz _ _ ⟨_, _, _, _, _, _, _, _, _, _, _, _, _, _, _, _, _, _, _, _, _, _, _, _, rfl, hB, fun f => h3 (add_nf f), fun e => hz (add_ne e (by decide)), fun e => k0 (add_ne e (by decide)), fun e => k1 (add_ne e (by decide)), fun e => k2 (add_ne e (by decide)), fun e => k3 (add_ne e (by decide)), fun e => k4 (add_ne e (by decide)), fun e => k5 (add_ne e (by decide)), fun e => k6 (add_ne e (by decide)), fun e => k7 (add_ne e (by decide)), fun e => k8 (add_ne e (by decide)), fun e => k9 (add_ne e (by decide)), fun e => k10 (add_ne e (by decide)), fun e => k11 (add_ne e (by decide)), fun e => k12 (add_ne e (by decide)), fun e => k13 (add_ne e (by decide)), fun e => k14 (add_ne e (by decide)), fun e => k15 (add_ne e (by decide)), fun e => k16 (add_ne e (by decide)), fun e => k17 (add_ne e (by decide)), fun e => k18 (add_ne e (by decide)), fun e => k19 (add_ne e (by decide)), fun e => k20 (add_ne e (by decide)), fun e => k21 (add_ne e (by decide)), fun _ => rfl⟩
          · -- 23
            have e22 := k22 (hdep 22 (by decide +kernel))
            subst e22
            refine wpOp_step rfl fun Kz hKz => ?_
            go_simp
            exact hKz _ _ ⟨_, _, _, _, _, _, _, _, _, _, _, _, _, _, _, _, _, _, _, _, _, _, _, _, rfl, hB, fun f => (by rw [show add L 23 23 = true from add_iff.2 (.inr rfl)] at f; cases f), fun _ => rfl, fun e => k0 (add_ne e (by decide)), fun e => k1 (add_ne e (by decide)), fun e => k2 (add_ne e (by decide)), fun e => k3 (add_ne e (by decide)), fun e => k4 (add_ne e (by decide)), fun e => k5 (add_ne e (by decide)), fun e => k6 (add_ne e (by decide)), fun e => k7 (add_ne e (by decide)), fun e => k8 (add_ne e (by decide)), fun e => k9 (add_ne e (by decide)), fun e => k10 (add_ne e (by decide)), fun e => k11 (add_ne e (by decide)), fun e => k12 (add_ne e (by decide)), fun e => k13 (add_ne e (by decide)), fun e => k14 (add_ne e (by decide)), fun e => k15 (add_ne e (by decide)), fun e => k16 (add_ne e (by decide)), fun e => k17 (add_ne e (by decide)), fun e => k18 (add_ne e (by decide)), fun e => k19 (add_ne e (by decide)), fun e => k20 (add_ne e (by decide)), fun e => k21 (add_ne e (by decide)), fun e => k22 (add_ne e (by decide))⟩
        · intro L az wz hI hL
          obtain ⟨v3, v54, v55, v56, v57, v58, v59, v60, v61, v62, v63, v64, v65, v66, v67, v68, v69, v70, v71, v72, v73, v74, v75, v76, rfl, hB, h3, hz, k0, k1, k2, k3, k4, k5, k6, k7, k8, k9, k10, k11, k12, k13, k14, k15, k16, k17, k18, k19, k20, k21, k22⟩ := hI
          have e3 := hz (hL 23 (by decide))
          subst e3
          clear h3 hz k0 k1 k2 k3 k4 k5 k6 k7 k8 k9 k10 k11 k12 k13 k14 k15 k16 k17 k18 k19 k20 k21 k22 hL
          replace hB := Lib.hid (hWB.out.trans (hB.mono hWB.out.size))
          go_wp2_with fail
          go_roundw
          case rel => exact ⟨k + 1, by omega, by go_num, by rw [hfin.out, ← hall.out], hB⟩
          case measure => simp [intOf]; omega
    · obtain rfl : k = n := by omega
      have hkz : ¬ (k : Int) < (k : Int) := by omega
      have hfin : Hid (R = bes 2 (toU (k : Nat)) ++ ents (b.l.take k)) := Lib.hid (by rw [hR.out, List.take_of_length_le (by have := hn.out; omega)]; unfold Bk.text; rw [← hn.out])
      go_wp2_with fail
      go_ret
      exact ⟨by rw [hfin.out]; rfl, hB.out⟩
end
end Go.Proofs.YtflbggehgjllcaaDoor
