/- The contracts of the reference's Ints and PutReply. -/
import Derived.Test.YtgcliallkfnhaaaW5
import Derived.Deep.DeepCutAuto
namespace Go.Proofs.Ytgcliallkfnhaaa
open Go.RowKit
set_option linter.unusedVariables false

/-- a slice of ints that is read -/
def ZRow (w : World) (p : Option Addr) (len : Nat) (l : List Int) : Prop :=
  l.length = len ∧ (len = 0 ∨ ∃ b off, p = some ⟨b, off, none⟩ ∧ b < w.heap.size ∧ ∀ i, i < len → w.cell? ⟨b, off + i, none⟩ = some (.int .i64 (l.getD i 0)))
theorem ZRow.kept {w w' : World} {p : Option Addr} {len : Nat} {l : List Int} (h : ZRow w p len l) (hb : Below w.heap.size w w') : ZRow w' p len l := by
  obtain ⟨h1, h2⟩ := h
  refine ⟨h1, h2.imp id ?_⟩
  rintro ⟨b, off, rfl, hlt, hc⟩
  exact ⟨b, off, rfl, Nat.lt_of_lt_of_le hlt hb.size, fun i hi => (hb.cell (p := ⟨b, off + i, none⟩) hlt).trans (hc i hi)⟩

set_option maxHeartbeats 2000000 in
set_option maxRecDepth 100000 in
theorem intsR_any (p q : Option Addr) (n m c c' : Nat) (l r : List Int) (w : World) (h : ZRow w p n l) (h' : ZRow w q m r) (hn : n ≤ 4611686018427387904) :
    Calls Try.prog 19 #[.slice p n c, .slice q m c'] w fun e w' => e = .returned (.bool (decide (l = r))) ∧ Below w.heap.size w w' := by
  obtain ⟨hl, hc⟩ := h
  obtain ⟨hl', hc'⟩ := h'
  by_cases hnm : n = m
  · subst hnm
    go_enter Try.func19, Try.ntmps19
    go_wp2_with fail
    go_loopw [5] (fun i wr => ∃ k : Nat, k ≤ n ∧ i = .int .i64 k ∧ Hid (Below w.heap.size w wr ∧ ∀ j, j < k → l.getD j 0 = r.getD j 0)) (fun i _ => n - (intOf i).toNat)
    case atStart => exact ⟨0, by omega, rfl, Lib.hid ⟨Below.refl _ _, fun j hj => by omega⟩⟩
    case round =>
      obtain ⟨k, hk, rfl, hR⟩ := hrel
      by_cases hkn : k < n
      · have kz : (k : Int) < (n : Int) := by omega
        obtain ⟨b, off, rfl, hblt, hcell⟩ := hc.resolve_left (by omega)
        obtain ⟨b', off', rfl, hblt', hcell'⟩ := hc'.resolve_left (by omega)
        have c1 : wr.cell? ⟨b, off + k, none⟩ = some (.int .i64 (l.getD k 0)) := (hR.out.1.cell (p := ⟨b, off + k, none⟩) hblt).trans (hcell k hkn)
        have c2 : wr.cell? ⟨b', off' + k, none⟩ = some (.int .i64 (r.getD k 0)) := (hR.out.1.cell (p := ⟨b', off' + k, none⟩) hblt').trans (hcell' k hkn)
        clear hcell hcell' hc hc'
        by_cases he : l.getD k 0 = r.getD k 0
        · rw [he] at c1
          have hN : Hid (Below w.heap.size w wr.drew ∧ ∀ j, j < k + 1 → l.getD j 0 = r.getD j 0) := Lib.hid ⟨hR.out.1.drew, fun j hj => by
            by_cases e : j = k
            · subst e; exact he
            · exact hR.out.2 j (by omega)⟩
          generalize r.getD k 0 = x at *
          replace he := Lib.hid he
          go_upto_region 6 with (fail)
          go_still_tail 8, (by kernel_rfl)
          change wpList _ _ _ _ _ (World.drew _)
          go_wp2_with fail
          go_roundw
          case rel => exact ⟨k + 1, by omega, by go_num, hN⟩
          case measure => simp [intOf]; omega
        · have hne : (l.getD k 0 == r.getD k 0) = false := by simpa using he
          have hne2 : (l.getD k 0 != r.getD k 0) = true := by simpa using he
          have hd : l ≠ r := fun e => he (by rw [e])
          have hN : Hid (Below w.heap.size w wr.drew) := Lib.hid hR.out.1.drew
          generalize l.getD k 0 = x at *
          generalize r.getD k 0 = y at *
          replace he := Lib.hid he
          replace hd := Lib.hid hd
          go_upto_region 6 with (fail)
          go_still_tail 8, (by kernel_rfl)
          change wpList _ _ _ _ _ (World.drew _)
          go_wp2_with fail
          go_ret
          exact ⟨by rw [decide_eq_false hd.out]; rfl, hN.out⟩
      · obtain rfl : k = n := by omega
        have kz : ¬ (k : Int) < (k : Int) := by omega
        have hd : l = r := by
          refine List.ext_getElem (by omega) fun i h1 h2 => ?_
          have := hR.out.2 i (by omega)
          rwa [List.getD_eq_getElem?_getD, List.getD_eq_getElem?_getD, List.getElem?_eq_getElem h1, List.getElem?_eq_getElem h2] at this
        replace hd := Lib.hid hd
        go_wp2_with fail
        go_ret
        exact ⟨by rw [decide_eq_true hd.out]; rfl, hR.out.1⟩
  · have hnz : ((n : Int) == (m : Int)) = false := by simp; omega
    have hnz2 : ((n : Int) != (m : Int)) = true := by simp; omega
    have hd : l ≠ r := fun e => hnm (by rw [← hl, ← hl', e])
    replace hd := Lib.hid hd
    go_enter Try.func19, Try.ntmps19
    go_wp2_with fail
    go_ret
    exact ⟨by rw [decide_eq_false hd.out]; rfl, Below.refl _ _⟩

/-- a reply's cells -/
def repArr (r : Rep) (p : Option Addr) (cap : Nat) : Array Value := #[.int .i64 r.E, .int .i64 r.Value, .slice p r.Ids.length cap]
/-- a reply's bytes, or none, with the error -/
def putPV (r : Rep) : Value := .tuple (if mayP r = true then #[sv (putP r), .int .i64 0] else #[.string ⟨#[]⟩, .int .i64 2])
/-- the turning of a slice's bytes into a text, under a name -/
def cvOp : Op := Op.convert 51 9 (.tmp 23)
theorem alloc_lt (w : World) (o : Obj) : w.heap.size < (w.alloc o).heap.size := by simp
theorem ids_take (l : List Int) (k : Nat) (h : k < l.length) : idsB (l.take (k + 1)) = idsB (l.take k) ++ bes 4 (toU (l.getD k 0)) := by
  rw [List.take_succ_eq_append_getElem h, List.getD_eq_getElem?_getD, List.getElem?_eq_getElem h]
  unfold idsB
  rw [List.flatMap_append]
  simp
/-- what is laid ahead of the numbers -/
def headP (r : Rep) : List UInt8 := UInt8.ofNat (toU r.E % 256) :: (bes 8 (toU r.Value) ++ bes 2 r.Ids.length)
theorem headP_length (r : Rep) : (headP r).length = 11 := by rw [headP, List.length_cons, List.length_append, bes_length, bes_length]
theorem putP_head (r : Rep) : putP r = headP r ++ idsB r.Ids := by unfold putP headP; simp
set_option maxHeartbeats 4000000 in
set_option maxRecDepth 100000 in
theorem putPR_any (r : Rep) (p : Option Addr) (cap : Nat) (w : World) (hz : ZRow w p r.Ids.length r.Ids) (hn : r.Ids.length ≤ 4611686018427387904) :
    Calls Try.prog 16 #[.agg (repArr r p cap)] w fun e w' => e = .returned (putPV r) ∧ Below w.heap.size w w' := by
  have hB0 : Below w.heap.size w (w.alloc (.cells (repArr r p cap) 43)) := (Below.refl _ _).alloc (Nat.le_refl _) _
  have hbx : (w.alloc (.cells (repArr r p cap) 43)).heap[w.heap.size]? = some (.cells (repArr r p cap) 43 (0, 0)) := heap_alloc_new w _
  have hz0 := hz.kept hB0
  have hmay := mayP_iff r
  unfold repArr at *
  generalize hv : w.alloc (.cells #[.int .i64 r.E, .int .i64 r.Value, .slice p r.Ids.length cap] 43) = v at *
  generalize hB : w.heap.size = B at *
  have hvb := obj_lt hbx
  have hS : ∀ w', Below v.heap.size v w' → w'.cell? ⟨B, 0, none⟩ = some (.int .i64 r.E) ∧ w'.cell? ⟨B, 1, none⟩ = some (.int .i64 r.Value) ∧ w'.cell? ⟨B, 2, none⟩ = some (.slice p r.Ids.length cap) := fun w' hb => by
    have h1 := (hb.block B hvb).trans hbx
    exact ⟨obj_cell h1 rfl, obj_cell h1 rfl, obj_cell h1 rfl⟩
  obtain ⟨q0, q1, q2⟩ := hS v (Below.refl _ _)
  replace hv := Lib.hid hv
  replace hB := Lib.hid hB
  replace hB0 := Lib.hid hB0
  replace hbx := Lib.hid hbx
  replace hz0 := Lib.hid hz0
  replace hS := Lib.hid hS
  replace hmay := Lib.hid hmay
  go_enter Try.func16, Try.ntmps16
  go_upto_region 1 with (fail)
  rw [hB.out]
  change Code.wp _ _ _ _ (w.alloc (.cells #[.int .i64 r.E, .int .i64 r.Value, .slice p r.Ids.length cap] 43))
  rw [hv.out]
  have hno : mayP r = false → putPV r = .tuple #[.string ⟨#[]⟩, .int .i64 2] := fun h => by unfold putPV; rw [h]; rfl
  replace hno := Lib.hid hno
  have hbad : ¬ ((0 ≤ r.E ∧ r.E ≤ 255) ∧ r.Ids.length ≤ 200 ∧ ∀ x ∈ r.Ids, 0 ≤ x ∧ x ≤ 2147483647) → mayP r = false := fun h => by
    cases hm : mayP r
    · rfl
    · exact absurd (hmay.out.1 hm) h
  replace hbad := Lib.hid hbad
  by_cases h1 : r.E < 0
  · have hm := hno.out (hbad.out (by omega))
    generalize r.Ids.length = n at *
    generalize r.E = E at *
    replace hm := Lib.hid hm
    go_wp2_with fail
    go_ret2
    exact ⟨by rw [hm.out]; rfl, hB0.out⟩
  by_cases h2 : 255 < r.E
  · have hm := hno.out (hbad.out (by omega))
    generalize r.Ids.length = n at *
    generalize r.E = E at *
    replace hm := Lib.hid hm
    go_wp2_with fail
    go_ret2
    exact ⟨by rw [hm.out]; rfl, hB0.out⟩
  by_cases h3 : 200 < r.Ids.length
  · have hm := hno.out (hbad.out (by omega))
    have h3z : (200 : Int) < (r.Ids.length : Int) := by omega
    generalize r.Ids.length = n at *
    generalize r.E = E at *
    replace hm := Lib.hid hm
    go_wp2_with fail
    go_ret2
    exact ⟨by rw [hm.out]; rfl, hB0.out⟩
  have h3z : ¬ (200 : Int) < (r.Ids.length : Int) := by omega
  have hE0 : 0 ≤ r.E := by omega
  have hE1 : r.E ≤ 255 := by omega
  go_upto_region 3 with (fail)
  have hEb : (((UInt8.ofNat (toU r.E % 256)).toNat : Nat) : Int) = r.E := by
    rw [UInt8.toNat_ofNat']
    unfold toU
    omega
  have hcv : ∀ (W : World) (g : Nat), W.heap[g]? = some (.cells #[.int .u8 r.E] 5 (0, 0)) → (convert 51 9 (.slice (some ⟨g, 0, none⟩) 1 1)).run Try.prog W = .ok (.string ⟨[UInt8.ofNat (toU r.E % 256)].toArray⟩) W := fun W g h => bytes_text W g 1 1 [UInt8.ofNat (toU r.E % 256)] (by
    unfold BRow Lib.byteCells
    simp only [List.map_cons, List.map_nil, hEb]
    exact h) rfl
  have hcvA : ∀ W : World, (convert 51 9 (.slice (some ⟨W.heap.size, 0, none⟩) 1 1)).run Try.prog (W.alloc (.cells #[.int .u8 r.E] 5)) = .ok (.string ⟨[UInt8.ofNat (toU r.E % 256)].toArray⟩) (W.alloc (.cells #[.int .u8 r.E] 5)) := fun W => hcv _ _ (heap_alloc_new W _)
  have hcvD : ∀ W : World, (convert 51 9 (.slice (some ⟨W.heap.size, 0, none⟩) 1 1)).run Try.prog (W.alloc (.cells #[.int .u8 r.E] 5)).drew = .ok (.string ⟨[UInt8.ofNat (toU r.E % 256)].toArray⟩) (W.alloc (.cells #[.int .u8 r.E] 5)).drew := fun W => hcv _ _ (heap_alloc_new W _)
  have lay8 : ∀ w, Calls Try.prog 23 #[.int .u64 ((toU r.Value : Nat) : Int), .int .i64 8] w fun e w' => e = .returned (sv (bes 8 (toU r.Value))) ∧ Below w.heap.size w w' := fun w => layR_any (toU r.Value) 8 w (toU_lt _) (by omega)
  have lay2 : ∀ w, Calls Try.prog 23 #[.int .u64 ((r.Ids.length : Nat) : Int), .int .i64 2] w fun e w' => e = .returned (sv (bes 2 r.Ids.length)) ∧ Below w.heap.size w w' := fun w => layR_any r.Ids.length 2 w (by omega) (by omega)
  have hwV := wrap_toU r.Value
  have hwE : IntKind.u8.wrap r.E = r.E := by unfold IntKind.wrap; simp [IntKind.bits, IntKind.signed]; omega
  have hwn : IntKind.u64.wrap ((r.Ids.length : Nat) : Int) = ((r.Ids.length : Nat) : Int) := by rw [wrap_toU, toU_nat _ (by omega)]
  have hj1 := fun w => join_texts [UInt8.ofNat (toU r.E % 256)] (bes 8 (toU r.Value)) w (by rw [bes_length]; simp)
  have hj2 := fun w => join_texts ([UInt8.ofNat (toU r.E % 256)] ++ bes 8 (toU r.Value)) (bes 2 r.Ids.length) w (by rw [List.length_append, bes_length, bes_length]; simp)
  have hhd : ([UInt8.ofNat (toU r.E % 256)] ++ bes 8 (toU r.Value)) ++ bes 2 r.Ids.length = headP r := by unfold headP; simp
  rw [hhd] at hj2
  unfold sv at lay8 lay2
  replace hhd := Lib.hid hhd
  replace hEb := Lib.hid hEb
  replace lay8 := Lib.hid lay8
  replace lay2 := Lib.hid lay2
  replace hcv := Lib.hid hcv
  have hBc : Hid (Below v.heap.size v v.drew) := Lib.hid (Below.refl _ _).drew
  have qd := hS.out v.drew (Below.refl _ _).drew
  go_cut [4] (fun s wc => s = .string ⟨(headP r).toArray⟩ ∧ Hid (Below v.heap.size v wc))
  case first =>
    generalize (⟨[UInt8.ofNat (toU r.E % 256)].toArray⟩ : ByteArray) = S1 at *
    generalize (⟨(bes 8 (toU r.Value)).toArray⟩ : ByteArray) = S8 at *
    generalize (⟨(bes 2 r.Ids.length).toArray⟩ : ByteArray) = S2 at *
    generalize (⟨([UInt8.ofNat (toU r.E % 256)] ++ bes 8 (toU r.Value)).toArray⟩ : ByteArray) = S9 at *
    generalize (⟨(headP r).toArray⟩ : ByteArray) = S11 at *
    generalize toU r.Value = yV at *
    generalize hnn : r.Ids.length = n at *
    generalize hEE : r.E = E at *
    generalize hVV : r.Value = V at *
    replace hnn := Lib.hid hnn
    replace hEE := Lib.hid hEE
    replace hVV := Lib.hid hVV
    have hcv24 : Op.convert 51 9 (.tmp 23) = cvOp := rfl
    rw [hcv24]
    replace hcv24 : cvOp = Op.convert 51 9 (.tmp 23) := rfl
    go_region_held3 (fun w' => w'.cell? ⟨B, 0, none⟩ = some (.int .i64 E) ∧ w'.cell? ⟨B, 1, none⟩ = some (.int .i64 V) ∧ w'.cell? ⟨B, 2, none⟩ = some (.slice p n cap)) (first | exact ⟨q0, q1, q2⟩ | exact qd | exact hHeld | exact hS.out _ hBc.out | exact hS.out _ (hBc.out.alloc hBc.out.size _) | exact hS.out _ (((Below.refl _ v).alloc (Nat.le_refl _) _).drew))
      (first
        | (go_at_call 23; (first | (with_reducible refine (lay8.out _).mono ?_) | (with_reducible refine (lay2.out _).mono ?_)); rintro e z ⟨rfl, hbz⟩; (first | (have hry := (hbz.block _ (obj_lt hrx)).trans hrx; clear hrx; have hrx := hry; clear hry; have hcz2 := hcv.out _ _ hrx) | (have hrx := (hbz.block _ (alloc_lt _ _)).trans (heap_alloc_new _ _); have hcz := hcv.out _ _ hrx) | (skip)); (first | (have hW1 := hBc.out.trans (hbz.mono hBc.out.size); clear hBc hbz; have hBc := Lib.hid hW1; clear hW1) | (have hW1 := (hBc.out.alloc hBc.out.size _).trans (hbz.mono (hBc.out.alloc hBc.out.size _).size); clear hBc hbz; have hBc := Lib.hid hW1; clear hW1) | (have hW1 := (((Below.refl _ v).alloc (Nat.le_refl _) _).drew).trans (hbz.mono (((Below.refl _ v).alloc (Nat.le_refl _) _).drew).size); clear hBc hbz; have hBc := Lib.hid hW1; clear hW1))))
    all_goals
      go_wp2_with fail
      go_meet
      case rel => first | exact ⟨rfl, hBc⟩ | exact ⟨rfl, Lib.hid (hBc.out.alloc hBc.out.size _)⟩
  case rest =>
    obtain ⟨rfl, hBw⟩ := hcut
    have hyes : mayP r = true → putPV r = .tuple #[sv (putP r), .int .i64 0] := fun h => by unfold putPV; rw [if_pos h]
    replace hyes := Lib.hid hyes
    clear hj1 hj2 hcvA hcvD qd hBc
    go_upto_region 4 with (fail)
    go_wp2_with fail
    go_loopw [4, 5] (fun s i wr => ∃ k : Nat, k ≤ r.Ids.length ∧ i = .int .i64 k ∧ s = .string ⟨(headP r ++ idsB (r.Ids.take k)).toArray⟩ ∧ Hid (Below v.heap.size v wr ∧ ∀ j, j < k → 0 ≤ r.Ids.getD j 0 ∧ r.Ids.getD j 0 ≤ 2147483647)) (fun _ i _ => r.Ids.length - (intOf i).toNat)
    case atStart => exact ⟨0, by omega, rfl, by simp [idsB], Lib.hid ⟨hBw.out, fun j hj => by omega⟩⟩
    case round =>
      obtain ⟨k, hk, rfl, rfl, hR⟩ := hrel
      obtain ⟨f0, f1, f2⟩ := hS.out _ hR.out.1
      have hlen : (headP r ++ idsB (r.Ids.take k)).length ≤ 1000 := by
        rw [List.length_append, headP_length, ids_length, List.length_take]
        omega
      by_cases hkn : k < r.Ids.length
      · have kz : (k : Int) < (r.Ids.length : Int) := by omega
        have kz0 : (0 : Int) ≤ (k : Int) := by omega
        obtain ⟨b, off, rfl, hblt, hcell⟩ := hz0.out.2.resolve_left (by omega)
        have c1 : wr.cell? ⟨b, off + k, none⟩ = some (.int .i64 (r.Ids.getD k 0)) := (hR.out.1.cell (p := ⟨b, off + k, none⟩) hblt).trans (hcell k hkn)
        have hmem : r.Ids.getD k 0 ∈ r.Ids := by
          rw [List.getD_eq_getElem?_getD, List.getElem?_eq_getElem hkn]
          exact List.getElem_mem hkn
        have htk := ids_take r.Ids k hkn
        clear hcell
        by_cases x0 : r.Ids.getD k 0 < 0
        · have hm := hno.out (hbad.out (fun h => by have := (h.2.2 _ hmem).1; omega))
          generalize r.Ids.getD k 0 = x at *
          generalize r.Ids.length = n at *
          generalize (⟨(headP r ++ idsB (r.Ids.take k)).toArray⟩ : ByteArray) = S at *
          replace hm := Lib.hid hm
          replace htk := Lib.hid htk
          replace hmem := Lib.hid hmem
          go_wp2_with fail
          go_ret2
          exact ⟨by rw [hm.out]; rfl, hB0.out.trans (hR.out.1.mono (Nat.le_of_lt hvb))⟩
        by_cases x1 : 2147483647 < r.Ids.getD k 0
        · have hm := hno.out (hbad.out (fun h => by have := (h.2.2 _ hmem).2; omega))
          generalize r.Ids.getD k 0 = x at *
          generalize r.Ids.length = n at *
          generalize (⟨(headP r ++ idsB (r.Ids.take k)).toArray⟩ : ByteArray) = S at *
          replace hm := Lib.hid hm
          replace htk := Lib.hid htk
          replace hmem := Lib.hid hmem
          go_wp2_with fail
          go_ret2
          exact ⟨by rw [hm.out]; rfl, hB0.out.trans (hR.out.1.mono (Nat.le_of_lt hvb))⟩
        have hN : ∀ j, j < k + 1 → 0 ≤ r.Ids.getD j 0 ∧ r.Ids.getD j 0 ≤ 2147483647 := fun j hj => by
          by_cases e : j = k
          · subst e; omega
          · exact hR.out.2 j (by omega)
        have lay4 : ∀ w, Calls Try.prog 23 #[.int .u64 ((toU (r.Ids.getD k 0) : Nat) : Int), .int .i64 4] w fun e w' => e = .returned (.string ⟨(bes 4 (toU (r.Ids.getD k 0))).toArray⟩) ∧ Below w.heap.size w w' := fun w => layR_any (toU (r.Ids.getD k 0)) 4 w (toU_lt _) (by omega)
        have hwx := wrap_toU (r.Ids.getD k 0)
        have hadd := fun w => join_texts (headP r ++ idsB (r.Ids.take k)) (bes 4 (toU (r.Ids.getD k 0))) w (by rw [bes_length]; omega)
        rw [List.append_assoc, ← htk] at hadd
        replace hN := Lib.hid hN
        replace lay4 := Lib.hid lay4
        replace htk := Lib.hid htk
        replace hmem := Lib.hid hmem
        replace hlen := Lib.hid hlen
        generalize hSe : (⟨(headP r ++ idsB (r.Ids.take (k + 1))).toArray⟩ : ByteArray) = S' at *
        replace hSe := Lib.hid hSe
        generalize (⟨(headP r ++ idsB (r.Ids.take k)).toArray⟩ : ByteArray) = S at *
        generalize (⟨(bes 4 (toU (r.Ids.getD k 0))).toArray⟩ : ByteArray) = S4 at *
        generalize toU (r.Ids.getD k 0) = y at *
        generalize r.Ids.getD k 0 = x at *
        generalize r.Ids.length = n at *
        go_wp2_with fail
        with_reducible refine (lay4.out _).mono ?_
        rintro e z ⟨rfl, hbz⟩
        have hBz : Hid (Below v.heap.size v z) := Lib.hid (hR.out.1.trans (hbz.mono hR.out.1.size))
        go_wp2_with fail
        go_roundw
        case rel => exact ⟨k + 1, by omega, by go_num, by rw [hSe.out], Lib.hid ⟨hBz.out, hN.out⟩⟩
        case measure => simp [intOf]; omega
      · obtain rfl : k = r.Ids.length := by omega
        have kz : ¬ (r.Ids.length : Int) < (r.Ids.length : Int) := by omega
        have hm := hyes.out (hmay.out.2 ⟨⟨hE0, hE1⟩, by omega, fun x hx => by
          obtain ⟨i, hi, rfl⟩ := List.getElem_of_mem hx
          have := hR.out.2 i hi
          rwa [List.getD_eq_getElem?_getD, List.getElem?_eq_getElem hi] at this⟩)
        rw [List.take_length, ← putP_head] at *
        unfold sv at hm
        replace hm := Lib.hid hm
        generalize (⟨(putP r).toArray⟩ : ByteArray) = S at *
        generalize hnn : r.Ids.length = n at *
        replace hnn := Lib.hid hnn
        go_wp2_with fail
        go_ret2
        exact ⟨by rw [hm.out]; rfl, hB0.out.trans (hR.out.1.mono (Nat.le_of_lt hvb))⟩
end Go.Proofs.Ytgcliallkfnhaaa
