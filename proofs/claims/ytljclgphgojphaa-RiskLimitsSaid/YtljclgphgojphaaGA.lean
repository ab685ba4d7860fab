/- risk's small functions: the contracts of isBelowZero, exceeds, failed, one, hasPart, and of slices.ContainsFunc and Clone as they use them. -/
import Derived.Test.YtljclgphgojphaaGN
import Derived.Test.YtljclgphgojphaaLH6
namespace Go.Proofs.Ytljclgphgojphaa
open Go.RowKit
set_option linter.unusedVariables false

set_option maxHeartbeats 1000000 in
theorem neg_any (x : Int) (w : World) : Calls Try.prog 45 #[.int .i64 x] w fun e w' => e = .returned (.bool (decide (x < 0))) ∧ w = w' := by
  by_cases h : x < 0
  · go_enter Try.func45, Try.ntmps45
    go_wp2_with fail
    go_ret
    exact ⟨retL_bool (by simpa using h), rfl⟩
  · go_enter Try.func45, Try.ntmps45
    go_wp2_with fail
    go_ret
    exact ⟨retL_bool (by simpa using h), rfl⟩
def negB (zs : List Int) : Bool := zs.any fun z => decide (z < 0)
theorem negB_yes {zs : List Int} {k : Nat} (hk : k < zs.length) (h : zs.getD k 0 < 0) : negB zs = true := by
  rw [List.getD_eq_getElem?_getD, List.getElem?_eq_getElem hk] at h
  exact List.any_eq_true.2 ⟨zs[k], List.getElem_mem hk, by simpa using h⟩
theorem negB_no {zs : List Int} (h : ∀ i, i < zs.length → ¬ zs.getD i 0 < 0) : negB zs = false := by
  unfold negB
  rw [List.any_eq_false]
  intro x hx
  obtain ⟨i, hi, rfl⟩ := List.getElem_of_mem hx
  have := h i hi
  rw [List.getD_eq_getElem?_getD, List.getElem?_eq_getElem hi] at this
  simpa using this
theorem negB_all {zs : List Int} (h : negB zs = false) (i : Nat) : 0 ≤ zs.getD i 0 := by
  by_cases hi : i < zs.length
  · rw [List.getD_eq_getElem?_getD, List.getElem?_eq_getElem hi]
    unfold negB at h
    rw [List.any_eq_false] at h
    have := h _ (List.getElem_mem hi)
    simp at this
    simpa using this
  · rw [List.getD_eq_getElem?_getD, List.getElem?_eq_none (by omega)]; decide

set_option maxHeartbeats 1000000 in
set_option maxRecDepth 100000 in
theorem index_neg (p : Option Addr) (len cap : Nat) (zs : List Int) (w : World) (hs : Seq64 w p len zs) :
    Calls Try.prog 74 #[.slice p len cap, .func (.func 45) #[] #[]] w fun e w' => ∃ n : Int, e = .returned (.int .i64 n) ∧ decide (0 ≤ n) = negB zs ∧ Below w.heap.size w w' := by
  obtain ⟨hl, hz, hm, hcells⟩ := hs
  replace hl := Lib.hid hl
  replace hz := Lib.hid hz
  replace hcells := Lib.hid hcells
  go_enter Try.func74, Try.ntmps74
  go_wp2_with fail
  go_loopw [8] (fun i wr => ∃ k : Nat, k ≤ len ∧ i = .int .i64 k ∧ Below w.heap.size w wr ∧ ∀ i, i < k → ¬ zs.getD i 0 < 0) (fun i _ => len - (intOf i).toNat)
  case atStart => exact ⟨0, by omega, rfl, Below.refl _ _, fun i hi => by omega⟩
  case round =>
    obtain ⟨k, hk, rfl, hb, hall⟩ := hrel
    replace hall := Lib.hid hall
    by_cases hlt : k < len
    · obtain ⟨b, off, rfl, hblt, hc⟩ := hcells.out.resolve_left (by omega)
      have c0 := hc k hlt
      rw [← hb.cell (p := ⟨b, off + k, none⟩) hblt] at c0
      have hsz := hb.size
      clear hc
      have hcon := neg_any (zs.getD k 0) wr
      replace hb := Lib.hid hb
      obtain ⟨z, hX⟩ : ∃ z, zs.getD k 0 = z := ⟨_, rfl⟩
      rw [hX] at c0 hcon
      replace hX := Lib.hid hX
      by_cases hF : z < 0
      · have hfin := Lib.hid (negB_yes (zs := zs) (by rw [hl.out]; exact hlt) (by rw [hX.out]; exact hF))
        have hk0 : decide ((0 : Int) ≤ (k : Int)) = true := by simp
        replace hk0 := Lib.hid hk0
        rw [show decide (z < 0) = true from by simpa using hF] at hcon
        replace hcon := Lib.hid hcon
        clear hF
        go_wp2_with (first | (go_at_call 45; (with_reducible refine hcon.out.mono ?_); rintro e w1 ⟨rfl, rfl⟩))
        go_ret
        exact ⟨k, rfl, by rw [hfin.out]; exact hk0.out, hb.out⟩
      · rw [show decide (z < 0) = false from by simpa using hF] at hcon
        replace hcon := Lib.hid hcon
        replace hF := Lib.hid hF
        go_wp2_with (first | (go_at_call 45; (with_reducible refine hcon.out.mono ?_); rintro e w1 ⟨rfl, rfl⟩))
        go_roundw
        case rel =>
          refine ⟨k + 1, by omega, by go_num, hb.out, fun i hi => ?_⟩
          by_cases e : i = k
          · subst e; rw [hX.out]; have := hF.out; omega
          · have := hall.out i (by omega); omega
        case measure => simp [intOf]; omega
    · have hfin := Lib.hid (negB_no (zs := zs) fun i hi => by have := hall.out i (by rw [hl.out] at hi; omega); omega)
      replace hb := Lib.hid hb
      go_wp2_with fail
      go_ret
      exact ⟨-1, rfl, by rw [hfin.out]; rfl, hb.out⟩
set_option maxHeartbeats 1000000 in
theorem contains_neg (p : Option Addr) (len cap : Nat) (zs : List Int) (w : World) (hs : Seq64 w p len zs) :
    Calls Try.prog 49 #[.slice p len cap, .func (.func 45) #[] #[]] w fun e w' => e = .returned (.bool (negB zs)) ∧ Below w.heap.size w w' := by
  have hcon := Lib.hid (index_neg p len cap zs w hs)
  clear hs
  go_enter Try.func49, Try.ntmps49
  go_wp2_with (first | (go_at_call 74; (with_reducible refine hcon.out.mono ?_); rintro e w1 ⟨n, rfl, hn, hb⟩; replace hn := Lib.hid hn))
  go_ret
  exact ⟨by rw [← hn.out]; rfl, hb⟩

set_option maxRecDepth 100000 in
set_option maxHeartbeats 1000000 in
/-- append([]int64{}, zs...): a new row -/
theorem cloneI_any (b off n c : Nat) (zs : List Int) (w : World) (hs : Seq64 w (some ⟨b, off, none⟩) n zs) (h1 : 1 ≤ n) (h8 : n ≤ 1000) :
    Calls Try.prog 50 #[.slice (some ⟨b, off, none⟩) n c] w fun e w' => ∃ g' c', e = .returned (.slice (some ⟨g', 0, none⟩) n c') ∧ Seq64 w' (some ⟨g', 0, none⟩) n zs ∧ w.heap.size ≤ g' ∧ Below w.heap.size w w' := by
  obtain ⟨hl, hz, hm, hcells⟩ := hs
  obtain ⟨b', off', e, hlt, hc⟩ := hcells.resolve_left (by omega)
  injection e with e
  injection e with e1 e2
  subst e1; subst e2
  obtain ⟨i0, hi, hz0, hz1, hz2⟩ := info_parts Try.info2r
  have hW := heap_alloc_new w (.cells #[] 2)
  have hb0 : Below w.heap.size w (w.alloc (.cells #[] 2)) := (Below.refl _ _).alloc (Nat.le_refl _) _
  have hown : (w.alloc (.cells #[] 2)).ownsRow w.heap.size 2 1 (.slice (some ⟨w.heap.size, 0, none⟩) 0 0) 0 [] := ⟨by simp, .inr ⟨w.heap.size, 0, #[], rfl, Nat.le_refl _, hW, Nat.le_refl _, by unfold maxLen; omega, by simp, by simp⟩⟩
  obtain ⟨v', w', h2, h3, h4, _⟩ := run_append_own (P := Try.prog) (w.alloc (.cells #[] 2)) w.heap.size 27 27 2 i0 (.int .i64 0) 1 8 Try.underlying27 hi hz0 hz1 hz2 rfl (by decide) (.slice (some ⟨w.heap.size, 0, none⟩) 0 0) 0 [] hown ⟨b, off, none⟩ n c (zs.map (Value.int .i64)) (by rw [List.length_map, hl]; omega)
    (fun j u hu => by
      have hj : j < n := by have := (List.getElem?_eq_some_iff.1 hu).1; rw [List.length_map] at this; omega
      rw [List.getElem?_map, List.getElem?_eq_getElem (by omega)] at hu
      injection hu with hu
      rw [← hu, Go.WideShapes.add_plain]
      have := (hb0.cell (p := ⟨b, off + j, none⟩) hlt).trans (hc j hj)
      rw [List.getD_eq_getElem?_getD, List.getElem?_eq_getElem (by omega)] at this
      exact this)
    (fun u hu => by obtain ⟨x, _, rfl⟩ := List.mem_map.1 hu; rfl) (by unfold maxLen; omega) (by omega) (by simp)
  rw [Nat.zero_add, List.nil_append] at h3
  have hB : Below w.heap.size w w' := hb0.grown h4 (by simp) (fun k hk => by simp [Value.ownBlock] at hk; omega)
  rcases h3.2 with ⟨_, e0⟩ | ⟨g', cap, cur, rfl, hg, hh, hn, hmm, hsz, ht⟩
  · omega
  have hS : Seq64 w' (some ⟨g', 0, none⟩) n zs := ⟨hl, hz, by omega, .inr ⟨g', 0, rfl, obj_lt hh, fun i hi => obj_cell hh (by
    have e : ((zs.map (Value.int .i64)))[i]? = cur[0 + i]? := by rw [← ht, List.getElem?_take, if_pos (by omega), Array.getElem?_toList, Nat.zero_add]
    rw [← e, List.getElem?_map, List.getD_eq_getElem?_getD, List.getElem?_eq_getElem (by omega)]
    rfl)⟩⟩
  replace h2 := Lib.hid h2
  replace hS := Lib.hid hS
  replace hB := Lib.hid hB
  replace hc := Lib.hid hc
  replace hz := Lib.hid hz
  have heq : ∀ w, (binOp BinOp.eql 27 (.slice (some ⟨b, off, none⟩) n c) (.slice none 0 0)).run Try.prog w = .ok (.bool false) w := fun w => by
    rw [Lib.run_eql_slice_nil w 27 2 _ _ _ _ _ Try.underlying27]; rfl
  go_enter Try.func50, Try.ntmps50
  go_wp2_with (at_builtin; refine wpList_run rfl (.tmp 5) (.tmp 6) 27 27 rfl _ _ _ _ rfl rfl h2.out ?_)
  go_ret
  exact ⟨_, ⟨_, rfl⟩, hS.out, hg, hB.out⟩

/-- a balance is below its Short, of the other sign -/
theorem exB_congr {nc : Nat} {L : Lim} {d f : Nat → Int} (h : ∀ c, c < nc → d c = f c) : exB nc L d = exB nc L f := by
  cases e : exB nc L f with
  | true =>
    obtain ⟨c, hc, hx⟩ := exB_iff.1 e
    exact exB_iff.2 ⟨c, hc, by rw [h c hc]; exact hx⟩
  | false =>
    cases e2 : exB nc L d with
    | false => rfl
    | true =>
      obtain ⟨c, hc, hx⟩ := exB_iff.1 e2
      rw [h c hc] at hx
      rw [exB_iff.2 ⟨c, hc, hx⟩] at e
      exact e
set_option maxHeartbeats 2000000 in
set_option maxRecDepth 100000 in
theorem exceeds_any (p : Option Addr) (len cap : Nat) (ds : List Int) (q : Option Addr) (c2 : Nat) (L : Lim) (w : World) (hd : Seq64 w p len ds) (hs : Seq64 w q len L.xs) (hpos : ∀ c, 0 ≤ L.sh c) :
    Calls Try.prog 46 #[.slice p len cap, .slice q len c2] w fun e w' => e = .returned (.bool (exB len L fun c => ds.getD c 0)) ∧ Below w.heap.size w w' := by
  have hd2 := Lib.hid hd
  have hs2 := Lib.hid hs
  replace hd := Lib.hid hd
  replace hs := Lib.hid hs
  have hpos2 := Lib.hid hpos
  clear hpos
  have hlen := hd.out.2.2.1
  obtain ⟨X, hXX⟩ : ∃ X, exB len L (fun c => ds.getD c 0) = X := ⟨_, rfl⟩
  rw [hXX]
  replace hXX := Lib.hid hXX
  go_enter Try.func46, Try.ntmps46
  go_wp2_with fail
  go_loopw [9] (fun i wr => ∃ k : Nat, k ≤ len ∧ i = .int .i64 k ∧ Below w.heap.size w wr ∧ ∀ i, i < k → ¬ ds.getD i 0 < -(L.sh i)) (fun i _ => len - (intOf i).toNat)
  case atStart => exact ⟨0, by omega, rfl, Below.refl _ _, fun i hi => by omega⟩
  case round =>
    obtain ⟨k, hk, rfl, hb, hall⟩ := hrel
    replace hall := Lib.hid hall
    by_cases hlt : k < len
    · have hkz : (k : Int) < (len : Int) := by omega
      obtain ⟨_, hz1, _, h1⟩ := hd.out
      obtain ⟨b, off, rfl, hblt, hc⟩ := h1.resolve_left (by omega)
      obtain ⟨_, hz2, _, h2⟩ := hs.out
      obtain ⟨b2, off2, rfl, hblt2, hc2⟩ := h2.resolve_left (by omega)
      have c0 := (hb.cell (p := ⟨b, off + k, none⟩) hblt).trans (hc k hlt)
      have d0 := (hb.cell (p := ⟨b2, off2 + k, none⟩) hblt2).trans (hc2 k hlt)
      have hsz := hb.size
      have hx0 := hpos2.out k
      have hx1 := hz2 k
      have hy1 := hz1 k
      unfold Amt at hx1 hy1
      unfold Lim.sh at hx0
      clear hc hc2 h1 h2 hz1 hz2
      replace hb := Lib.hid hb
      generalize hY : ds.getD k 0 = y at *
      generalize hX : L.xs.getD k 0 = x at *
      by_cases hF : y < -x
      · have hfin : Hid (exB len L (fun c => ds.getD c 0) = true) := Lib.hid (exB_iff.2 ⟨k, hlt, by show ds.getD k 0 < -(L.xs.getD k 0); rw [hX, hY]; exact hF⟩)
        replace hY := Lib.hid hY
        replace hX := Lib.hid hX
        go_wp2_with fail
        go_ret
        exact ⟨by rw [← hXX.out, hfin.out]; rfl, hb.out⟩
      · replace hY := Lib.hid hY
        replace hX := Lib.hid hX
        go_wp2_with fail
        go_roundw
        case rel =>
          refine ⟨k + 1, by omega, by go_num, hb.out, fun i hi => ?_⟩
          by_cases e : i = k
          · subst e
            show ¬ ds.getD i 0 < -(L.xs.getD i 0)
            rw [hX.out, hY.out]; omega
          · have := hall.out i (by omega); omega
        case measure => simp [intOf]; omega
    · have hfin : Hid (exB len L (fun c => ds.getD c 0) = false) := Lib.hid (by
        cases e : exB len L (fun c => ds.getD c 0) with
        | false => rfl
        | true =>
          obtain ⟨c, hc, hx⟩ := exB_iff.1 e
          have := hall.out c (by omega); omega)
      replace hb := Lib.hid hb
      go_wp2_with fail
      go_ret
      exact ⟨by rw [← hXX.out, hfin.out]; rfl, hb.out⟩

set_option maxHeartbeats 4000000 in
set_option maxRecDepth 100000 in
theorem failed_any (q : Option Addr) (c2 : Nat) (L : Lim) (p : Option Addr) (len cap : Nat) (ds : List Int) (net short : Int) (w : World) (hd : Seq64 w p len ds) (hs : Seq64 w q len L.xs) (hpos : ∀ c, 0 ≤ L.sh c) :
    Calls Try.prog 22 #[.agg #[.slice q len c2, .int .i64 L.all], .slice p len cap, .int .i64 net, .int .i64 short] w fun e w' => e = .returned (.int .i64 (bits (decide (net < 0)) (exB len L fun c => ds.getD c 0) (decide (L.all < short)))) ∧ Below w.heap.size w w' := by
  have hbx := heap_alloc_new w (.cells #[.slice q len c2, .int .i64 L.all] 29)
  have hB : Below w.heap.size w (w.alloc (.cells #[.slice q len c2, .int .i64 L.all] 29)) := (Below.refl _ _).alloc (Nat.le_refl _) _
  have hX := exceeds_any p len cap ds q c2 L _ (hd.kept hB) (hs.kept hB) hpos
  generalize exB len L (fun c => ds.getD c 0) = X at *
  have hN := neg_any net
  clear hd hs hpos
  generalize L.all = A at *
  generalize hv : w.alloc (.cells #[.slice q len c2, .int .i64 A] 29) = v at *
  have b0 : v.cell? ⟨w.heap.size, 0, none⟩ = some (.slice q len c2) := obj_cell hbx rfl
  replace hX : Calls Try.prog 46 #[.slice p len cap, .slice q len c2] v fun e w' => e = .returned (.bool X) ∧ Below v.heap.size v w' ∧ w'.cell? ⟨w.heap.size, 1, none⟩ = some (.int .i64 A) ∧ Below w.heap.size w w' := hX.mono fun e w' ⟨h1, h2⟩ => ⟨h1, h2, (h2.cell (p := ⟨w.heap.size, 1, none⟩) (obj_lt hbx)).trans (obj_cell hbx rfl), hB.trans (h2.mono hB.size)⟩
  replace hX := Lib.hid hX
  replace hv := Lib.hid hv
  replace hbx := Lib.hid hbx
  replace hB := Lib.hid hB
  by_cases hn : net < 0
  · rw [show decide (net < 0) = true from by simpa using hn] at hN ⊢
    replace hN := Lib.hid hN
    cases X <;> by_cases ha : A < short <;>
    · go_enter Try.func22, Try.ntmps22
      go_upto_region 1 with (fail)
      change Code.wp _ _ _ _ (w.alloc (.cells #[.slice q len c2, .int .i64 A] 29))
      rw [hv.out]
      go_wp2_with (first | (go_at_call 45; (with_reducible refine (hN.out _).mono ?_); rintro e w1 ⟨rfl, rfl⟩) | (go_at_call 46; (with_reducible refine hX.out.mono ?_); rintro e w1 ⟨rfl, hb1, b1, hB1⟩; replace hB1 := Lib.hid hB1; replace hb1 := Lib.hid hb1))
      go_ret
      refine ⟨?_, hB1.out⟩
      first
        | rw [show decide (A < short) = true from by simpa using ha]; rfl
        | rw [show decide (A < short) = false from by simpa using ha]; rfl
  · rw [show decide (net < 0) = false from by simpa using hn] at hN ⊢
    replace hN := Lib.hid hN
    cases X <;> by_cases ha : A < short <;>
    · go_enter Try.func22, Try.ntmps22
      go_upto_region 1 with (fail)
      change Code.wp _ _ _ _ (w.alloc (.cells #[.slice q len c2, .int .i64 A] 29))
      rw [hv.out]
      go_wp2_with (first | (go_at_call 45; (with_reducible refine (hN.out _).mono ?_); rintro e w1 ⟨rfl, rfl⟩) | (go_at_call 46; (with_reducible refine hX.out.mono ?_); rintro e w1 ⟨rfl, hb1, b1, hB1⟩; replace hB1 := Lib.hid hB1; replace hb1 := Lib.hid hb1))
      go_ret
      refine ⟨?_, hB1.out⟩
      first
        | rw [show decide (A < short) = true from by simpa using ha]; rfl
        | rw [show decide (A < short) = false from by simpa using ha]; rfl

/-- a batch of a single posting -/
theorem prow_one {w : World} {m c a : Int} (hm : In64 m) (hc : In64 c) (ha : In64 a) : PRow (w.alloc (.cells #[.int .i64 m, .int .i64 c, .int .i64 a] 39)) (some ⟨w.heap.size, 0, none⟩) 1 [⟨m, c, a⟩] := by
  have hb := heap_alloc_new w (.cells #[.int .i64 m, .int .i64 c, .int .i64 a] 39)
  refine ⟨rfl, fun q hq => ?_, .inr ⟨_, 0, rfl, obj_lt hb, fun i q hq => ?_⟩⟩
  · obtain rfl := List.mem_singleton.1 hq
    exact ⟨hm, hc, ha⟩
  · match i with
    | 0 => injection hq with hq; rw [← hq]; exact ⟨obj_cell hb rfl, obj_cell hb rfl, obj_cell hb rfl⟩
    | i + 1 => simp at hq
set_option maxHeartbeats 1000000 in
theorem one_any (m c a : Int) (w : World) : Calls Try.prog 17 #[.int .i64 m, .int .i64 c, .int .i64 a] w fun e w' => e = .returned (.slice (some ⟨w.heap.size, 0, none⟩) 1 1) ∧ w' = w.alloc (.cells #[.int .i64 m, .int .i64 c, .int .i64 a] 39) := by
  go_enter Try.func17, Try.ntmps17
  go_wp2_with fail
  go_ret
  exact ⟨rfl, rfl⟩

set_option maxHeartbeats 1000000 in
theorem partQ_any (q : Pst) (b : Nat) (m : Int) (w : World) (hb : w.cell? ⟨b, 0, none⟩ = some (.int .i64 m)) : Calls Try.prog 57 #[.agg #[.int .i64 q.m, .int .i64 q.c, .int .i64 q.a], .pointer (some ⟨b, 0, none⟩)] w fun e w' => e = .returned (.bool (decide (q.m = m))) ∧ Below w.heap.size w w' := by
  have hbx := heap_alloc_new w (.cells #[.int .i64 q.m, .int .i64 q.c, .int .i64 q.a] 39)
  have hB : Below w.heap.size w (w.alloc (.cells #[.int .i64 q.m, .int .i64 q.c, .int .i64 q.a] 39)) := (Below.refl _ _).alloc (Nat.le_refl _) _
  have hb1 := (hB.cell (p := ⟨b, 0, none⟩) (World.block_lt_of_cell? _ _ hb)).trans hb
  generalize hv : w.alloc (.cells #[.int .i64 q.m, .int .i64 q.c, .int .i64 q.a] 39) = v at *
  have b0 : v.cell? ⟨w.heap.size, 0, none⟩ = some (.int .i64 q.m) := obj_cell hbx rfl
  replace hbx := Lib.hid hbx
  replace hB := Lib.hid hB
  replace hv := Lib.hid hv
  by_cases h : q.m = m
  · have hz : (q.m == m) = true := by simpa using h
    replace h := Lib.hid h
    go_enter Try.func57, Try.ntmps57
    go_upto_region 1 with (fail)
    rw [hv.out]
    go_wp2_with fail
    go_ret
    exact ⟨retL_bool (by simpa using h.out), hB.out⟩
  · have hz : (q.m == m) = false := by simpa using h
    replace h := Lib.hid h
    go_enter Try.func57, Try.ntmps57
    go_upto_region 1 with (fail)
    rw [hv.out]
    go_wp2_with fail
    go_ret
    exact ⟨retL_bool (by simpa using h.out), hB.out⟩
def partI (m : Int) (ps : List Pst) : Bool := ps.any fun q => decide (q.m = m)
theorem partI_nat (k : Nat) (ps : List Pst) : partI (k : Int) ps = partB k ps := rfl
theorem partI_yes {m : Int} {ps : List Pst} {k : Nat} {q : Pst} (hq : ps[k]? = some q) (h : q.m = m) : partI m ps = true := List.any_eq_true.2 ⟨q, List.mem_of_getElem? hq, by simpa using h⟩
theorem partI_no {m : Int} {ps : List Pst} (h : ∀ (i : Nat) (q : Pst), ps[i]? = some q → ¬ q.m = m) : partI m ps = false := by
  unfold partI
  rw [List.any_eq_false]
  intro q hq
  obtain ⟨i, hi, rfl⟩ := List.getElem_of_mem hq
  have := h i _ (List.getElem?_eq_getElem hi)
  simpa using this
set_option maxHeartbeats 1000000 in
set_option maxRecDepth 100000 in
theorem index_part (p : Option Addr) (len cap : Nat) (ps : List Pst) (b : Nat) (m : Int) (w : World) (hs : PRow w p len ps) (hlen : len ≤ 1000) (hb : w.cell? ⟨b, 0, none⟩ = some (.int .i64 m)) :
    Calls Try.prog 80 #[.slice p len cap, .func (.func 57) #[] #[.pointer (some ⟨b, 0, none⟩)]] w fun e w' => ∃ n : Int, e = .returned (.int .i64 n) ∧ decide (0 ≤ n) = partI m ps ∧ Below w.heap.size w w' := by
  obtain ⟨hl, hz, hcells⟩ := hs
  have hbl := World.block_lt_of_cell? _ _ hb
  replace hl := Lib.hid hl
  replace hz := Lib.hid hz
  replace hcells := Lib.hid hcells
  replace hb := Lib.hid hb
  go_enter Try.func80, Try.ntmps80
  go_wp2_with fail
  go_loopw [8] (fun i wr => ∃ k : Nat, k ≤ len ∧ i = .int .i64 k ∧ Below w.heap.size w wr ∧ ∀ (i : Nat) (q : Pst), i < k → ps[i]? = some q → ¬ q.m = m) (fun i _ => len - (intOf i).toNat)
  case atStart => exact ⟨0, by omega, rfl, Below.refl _ _, fun i q hi => by omega⟩
  case round =>
    obtain ⟨k, hk, rfl, hB, hall⟩ := hrel
    replace hall := Lib.hid hall
    by_cases hlt : k < len
    · have hkz : (k : Int) < (len : Int) := by omega
      obtain ⟨rb, off, rfl, hblt, hc⟩ := hcells.out.resolve_left (by omega)
      obtain ⟨q, hq⟩ : ∃ q, ps[k]? = some q := ⟨_, List.getElem?_eq_getElem (by rw [hl.out]; exact hlt)⟩
      obtain ⟨c0, c1, c2⟩ := hc k q hq
      rw [← hB.cell (p := ⟨rb, off + k * 3, none⟩) hblt] at c0
      rw [← hB.cell (p := ⟨rb, off + k * 3 + 1, none⟩) hblt] at c1
      rw [← hB.cell (p := ⟨rb, off + k * 3 + 2, none⟩) hblt] at c2
      have hsz := hB.size
      clear hc
      have hcon := partQ_any q b m wr ((hB.cell (p := ⟨b, 0, none⟩) hbl).trans hb.out)
      replace hB := Lib.hid hB
      by_cases hF : q.m = m
      · have hfin := Lib.hid (partI_yes hq hF)
        have hk0 : decide ((0 : Int) ≤ (k : Int)) = true := by simp
        replace hk0 := Lib.hid hk0
        rw [show decide (q.m = m) = true from by simpa using hF] at hcon
        replace hcon := Lib.hid hcon
        replace hq := Lib.hid hq
        clear hF
        go_wp2_with (first | (go_at_call 57; (with_reducible refine hcon.out.mono ?_); rintro e w1 ⟨rfl, hb2⟩))
        go_ret
        exact ⟨k, rfl, by rw [hfin.out]; exact hk0.out, chain_trans hB.out hb2⟩
      · rw [show decide (q.m = m) = false from by simpa using hF] at hcon
        replace hcon := Lib.hid hcon
        replace hF := Lib.hid hF
        replace hq := Lib.hid hq
        go_wp2_with (first | (go_at_call 57; (with_reducible refine hcon.out.mono ?_); rintro e w1 ⟨rfl, hb2⟩))
        go_roundw
        case rel =>
          refine ⟨k + 1, by omega, by go_num, chain_trans hB.out hb2, fun i y hi hy => ?_⟩
          by_cases e : i = k
          · subst e
            rw [hq.out] at hy
            injection hy with hy
            subst hy
            exact hF.out
          · exact hall.out i y (by omega) hy
        case measure => simp [intOf]; omega
    · have hfin := Lib.hid (partI_no (m := m) (ps := ps) fun i q hq => hall.out i q (by have := (List.getElem?_eq_some_iff.1 hq).1; rw [hl.out] at this; omega) hq)
      replace hB := Lib.hid hB
      go_wp2_with fail
      go_ret
      exact ⟨-1, rfl, by rw [hfin.out]; rfl, hB.out⟩
set_option maxHeartbeats 1000000 in
theorem contains_part (p : Option Addr) (len cap : Nat) (ps : List Pst) (b : Nat) (m : Int) (w : World) (hs : PRow w p len ps) (hlen : len ≤ 1000) (hb : w.cell? ⟨b, 0, none⟩ = some (.int .i64 m)) :
    Calls Try.prog 56 #[.slice p len cap, .func (.func 57) #[] #[.pointer (some ⟨b, 0, none⟩)]] w fun e w' => e = .returned (.bool (partI m ps)) ∧ Below w.heap.size w w' := by
  have hcon := Lib.hid (index_part p len cap ps b m w hs hlen hb)
  clear hs hb
  go_enter Try.func56, Try.ntmps56
  go_wp2_with (first | (go_at_call 80; (with_reducible refine hcon.out.mono ?_); rintro e w1 ⟨n, rfl, hn, hb⟩; replace hn := Lib.hid hn))
  go_ret
  exact ⟨by rw [← hn.out]; rfl, hb⟩
set_option maxHeartbeats 1000000 in
theorem part_any (m : Int) (p : Option Addr) (len cap : Nat) (ps : List Pst) (w : World) (hs : PRow w p len ps) (hlen : len ≤ 1000) :
    Calls Try.prog 32 #[.int .i64 m, .slice p len cap] w fun e w' => e = .returned (.bool (partI m ps)) ∧ Below w.heap.size w w' := by
  have hbx := heap_alloc_new w (.cells #[.int .i64 m] 3)
  have hB : Below w.heap.size w (w.alloc (.cells #[.int .i64 m] 3)) := (Below.refl _ _).alloc (Nat.le_refl _) _
  have hcon : Calls Try.prog 56 #[.slice p len cap, .func (.func 57) #[] #[.pointer (some ⟨w.heap.size, 0, none⟩)]] (w.alloc (.cells #[.int .i64 m] 3)) fun e w' => e = .returned (.bool (partI m ps)) ∧ Below w.heap.size w w' := (contains_part p len cap ps w.heap.size m _ (hs.kept hB) hlen (obj_cell hbx rfl)).mono fun e w' ⟨h1, h2⟩ => ⟨h1, hB.trans (h2.mono hB.size)⟩
  replace hcon := Lib.hid hcon
  clear hs hbx hB
  go_enter Try.func32, Try.ntmps32
  go_wp2_with (first | (go_at_call 56; (with_reducible refine hcon.out.mono ?_); rintro e w1 ⟨rfl, hb⟩))
  go_ret
  exact ⟨rfl, hb⟩
end Go.Proofs.Ytljclgphgojphaa
