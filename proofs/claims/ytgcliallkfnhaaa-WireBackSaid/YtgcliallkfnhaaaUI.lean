/- The contracts of wire's mayReply, PutReply. -/
import Derived.Test.YtgcliallkfnhaaaUF
import Derived.Test.YtgcliallkfnhaaaW6
namespace Go.Proofs.Ytgcliallkfnhaaa
open Go.RowKit
set_option linter.unusedVariables false

set_option maxHeartbeats 8000000 in
set_option maxRecDepth 100000 in
theorem mayReply_any (r : Rep) (p : Option Addr) (cap : Nat) (w : World) (hz : ZRow w p r.Ids.length r.Ids) (hn : r.Ids.length ≤ 4611686018427387904) :
    Calls Try.prog 29 #[.agg (repArr r p cap)] w fun e w' => e = .returned (.bool (mayP r)) ∧ Below w.heap.size w w' := by
  have hB0 : Below w.heap.size w (w.alloc (.cells (repArr r p cap) 40)) := (Below.refl _ _).alloc (Nat.le_refl _) _
  have hbx : (w.alloc (.cells (repArr r p cap) 40)).heap[w.heap.size]? = some (.cells (repArr r p cap) 40 (0, 0)) := heap_alloc_new w _
  have hz0 := hz.kept hB0
  have hiff := mayP_iff r
  unfold repArr at *
  generalize hv : w.alloc (.cells #[.int .i64 r.E, .int .i64 r.Value, .slice p r.Ids.length cap] 40) = v at *
  generalize hB : w.heap.size = B at *
  have q0 : v.cell? ⟨B, 0, none⟩ = some (.int .i64 r.E) := obj_cell hbx rfl
  have q2 : v.cell? ⟨B, 2, none⟩ = some (.slice p r.Ids.length cap) := obj_cell hbx rfl
  replace hv := Lib.hid hv
  replace hB := Lib.hid hB
  replace hB0 := Lib.hid hB0
  replace hbx := Lib.hid hbx
  replace hz := Lib.hid hz
  have hf : ∀ b : Bool, (¬ ((0 ≤ r.E ∧ r.E ≤ 255) ∧ r.Ids.length ≤ 200)) → mayP r = false := fun _ h => by
    cases h2 : mayP r with
    | false => rfl
    | true => exact absurd ⟨(hiff.1 h2).1, (hiff.1 h2).2.1⟩ h
  by_cases h1 : r.E < 0
  · have hm : mayP r = false := hf true (by omega)
    rw [hm]
    clear hiff hf
    go_enter Try.func29, Try.ntmps29
    go_upto_region 1 with (fail)
    rw [hB.out]
    change Code.wp _ _ _ _ (w.alloc (.cells #[.int .i64 r.E, .int .i64 r.Value, .slice p r.Ids.length cap] 40))
    rw [hv.out]
    go_wp2_with fail
    go_ret
    exact ⟨rfl, hB0.out⟩
  by_cases h2 : 255 < r.E
  · have hm : mayP r = false := hf true (by omega)
    rw [hm]
    clear hiff hf
    go_enter Try.func29, Try.ntmps29
    go_upto_region 1 with (fail)
    rw [hB.out]
    change Code.wp _ _ _ _ (w.alloc (.cells #[.int .i64 r.E, .int .i64 r.Value, .slice p r.Ids.length cap] 40))
    rw [hv.out]
    go_wp2_with fail
    go_ret
    exact ⟨rfl, hB0.out⟩
  generalize hnl : r.Ids.length = n at *
  by_cases h3 : (200 : Int) < (n : Int)
  · have hm : mayP r = false := hf true (by omega)
    rw [hm]
    clear hiff hf
    go_enter Try.func29, Try.ntmps29
    go_upto_region 1 with (fail)
    rw [hB.out]
    change Code.wp _ _ _ _ (w.alloc (.cells #[.int .i64 r.E, .int .i64 r.Value, .slice p n cap] 40))
    rw [hv.out]
    go_wp2_with fail
    go_ret
    exact ⟨rfl, hB0.out⟩
  have hn200 : n ≤ 200 := by omega
  have hI := fun x w => isId_any x w
  replace hI := Lib.hid hI
  go_enter Try.func29, Try.ntmps29
  go_upto_region 1 with (fail)
  rw [hB.out]
  change Code.wp _ _ _ _ (w.alloc (.cells #[.int .i64 r.E, .int .i64 r.Value, .slice p n cap] 40))
  rw [hv.out]
  go_wp2_with fail
  go_loop [22] (fun i => ∃ k : Nat, k ≤ n ∧ i = .int .i64 k ∧ Hid (∀ j, j < k → idOk (r.Ids.getD j 0) = true)) (fun i => n - (intOf i).toNat)
  case atStart => exact ⟨0, by omega, rfl, Lib.hid (fun j h => by omega)⟩
  case round =>
    obtain ⟨k, hk, rfl, hA⟩ := hrel
    by_cases hkn : k < n
    · have kz : (k : Int) < (n : Int) := by omega
      obtain ⟨hzl, hzc⟩ := hz0
      obtain ⟨b, off, rfl, hblt, hcell⟩ := hzc.resolve_left (by omega)
      have c1 := hcell k hkn
      have hIk := hI.out (r.Ids.getD k 0)
      clear hcell hzc
      cases hid : idOk (r.Ids.getD k 0) with
      | false =>
        have hm : mayP r = false := by
          cases h2 : mayP r with
          | false => rfl
          | true =>
            have h4 := (hiff.1 h2).2.2 (r.Ids.getD k 0) (by rw [List.getD_eq_getElem?_getD, List.getElem?_eq_getElem (by omega)]; exact List.getElem_mem _)
            have : idOk (r.Ids.getD k 0) = true := by unfold idOk; exact decide_eq_true h4
            rw [this] at hid
            cases hid
        rw [hid] at hIk
        generalize r.Ids.getD k 0 = x at *
        replace hIk := Lib.hid hIk
        replace hid := Lib.hid hid
        replace hm := Lib.hid hm
        clear hiff hf
        go_wp2_with (first | (go_at_call 27; (with_reducible refine (hIk.out _).mono ?_); rintro e z ⟨rfl, rfl⟩))
        go_ret
        exact ⟨by rw [hm.out]; rfl, hB0.out⟩
      | true =>
        have hA2 : Hid (∀ j, j < k + 1 → idOk (r.Ids.getD j 0) = true) := Lib.hid fun j hj => by
          by_cases e : j = k
          · subst e; exact hid
          · exact hA.out j (by omega)
        rw [hid] at hIk
        generalize r.Ids.getD k 0 = x at *
        replace hIk := Lib.hid hIk
        replace hid := Lib.hid hid
        go_wp2_with (first | (go_at_call 27; (with_reducible refine (hIk.out _).mono ?_); rintro e z ⟨rfl, rfl⟩))
        go_round
        case rel => exact ⟨k + 1, by omega, by go_num, hA2⟩
        case measure => simp [intOf]; omega
    · obtain rfl : k = n := by omega
      have kz : ¬ (k : Int) < (k : Int) := by omega
      have hm : mayP r = true := hiff.2 ⟨by omega, by omega, fun x hx => by
        obtain ⟨j, hj, rfl⟩ := List.getElem_of_mem hx
        have := hA.out j (by omega)
        rw [List.getD_eq_getElem?_getD, List.getElem?_eq_getElem hj] at this
        unfold idOk at this
        exact of_decide_eq_true this⟩
      clear hiff hf
      replace hm := Lib.hid hm
      go_wp2_with fail
      go_ret
      exact ⟨by rw [hm.out]; rfl, hB0.out⟩

/-- PutReply's way: what it holds -/
structure PtSt (v : World) (b : Value) (l : List UInt8) (wr : World) : Prop where
  row : Row wr b l
  own : ∀ h, b.ownBlock = some h → v.heap.size ≤ h
  blw : Below v.heap.size v wr
theorem PtSt.laid {v wr w' : World} {b u : Value} {l l' : List UInt8} (h : PtSt v b l wr) (hL : Laid wr w' b u l') : PtSt v u l' w' := by
  refine ⟨hL.row, fun x hx => ?_, h.blw.trans (hL.kp.below h.blw.size fun j hj e => ?_)⟩
  · rcases hL.own x hx with e | e
    · exact h.own x e
    · have := h.blw.size; omega
  · have := h.own j e; omega

set_option maxHeartbeats 8000000 in
set_option maxRecDepth 100000 in
theorem putP_any (r : Rep) (p : Option Addr) (cap : Nat) (w : World) (hz : ZRow w p r.Ids.length r.Ids) (hn : r.Ids.length ≤ 4611686018427387904) :
    Calls Try.prog 15 #[.agg (repArr r p cap)] w fun e w' => e = .returned (putPV r) ∧ Below w.heap.size w w' := by
  have hB0 : Below w.heap.size w (w.alloc (.cells (repArr r p cap) 40)) := (Below.refl _ _).alloc (Nat.le_refl _) _
  have hbx : (w.alloc (.cells (repArr r p cap) 40)).heap[w.heap.size]? = some (.cells (repArr r p cap) 40 (0, 0)) := heap_alloc_new w _
  have hz0 := hz.kept hB0
  have cM := mayReply_any r p cap (w.alloc (.cells (repArr r p cap) 40)) hz0 hn
  have hmay := mayP_iff r
  unfold repArr at *
  generalize hv : w.alloc (.cells #[.int .i64 r.E, .int .i64 r.Value, .slice p r.Ids.length cap] 40) = v at *
  generalize hB : w.heap.size = B at *
  have hS : ∀ w', Below v.heap.size v w' → w'.cell? ⟨B, 0, none⟩ = some (.int .i64 r.E) ∧ w'.cell? ⟨B, 1, none⟩ = some (.int .i64 r.Value) ∧ w'.cell? ⟨B, 2, none⟩ = some (.slice p r.Ids.length cap) := fun w' hb => by
    have h1 := (hb.block B (obj_lt hbx)).trans hbx
    exact ⟨obj_cell h1 rfl, obj_cell h1 rfl, obj_cell h1 rfl⟩
  obtain ⟨q0, q1, q2⟩ := hS v (Below.refl _ _)
  have hBv := obj_lt hbx
  replace hv := Lib.hid hv
  replace hB := Lib.hid hB
  replace hB0 := Lib.hid hB0
  replace hbx := Lib.hid hbx
  replace hz := Lib.hid hz
  replace hS := Lib.hid hS
  unfold putPV
  cases hm : mayP r with
  | false =>
    rw [hm] at cM
    replace cM := Lib.hid cM
    replace hm := Lib.hid hm
    clear hmay
    go_enter Try.func15, Try.ntmps15
    go_upto_region 1 with (fail)
    rw [hB.out]
    change Code.wp _ _ _ _ (w.alloc (.cells #[.int .i64 r.E, .int .i64 r.Value, .slice p r.Ids.length cap] 40))
    rw [hv.out]
    go_wp2_with fail
    with_reducible refine cM.out.mono ?_
    rintro e w1 ⟨rfl, hb1⟩
    have hB1 : Below B w w1 := hB0.out.trans (hb1.mono (Nat.le_of_lt hBv))
    replace hb1 := Lib.hid hb1
    replace hB1 := Lib.hid hB1
    go_wp2_with fail
    go_ret2
    exact ⟨rfl, hB1.out⟩
  | true =>
    obtain ⟨hE, hl200, hids⟩ := hmay.1 hm
    rw [hm] at cM
    have hph := putP_head r
    have hit := fun k h => ids_take r.Ids k h
    generalize hnl : r.Ids.length = n at *
    have hlu : toU (n : Int) = n := toU_nat n (by omega)
    replace cM := Lib.hid cM
    replace hm := Lib.hid hm
    replace hlu := Lib.hid hlu
    replace hph := Lib.hid hph
    replace hit := Lib.hid hit
    replace hids := Lib.hid hids
    clear hmay
    go_enter Try.func15, Try.ntmps15
    go_upto_region 1 with (fail)
    rw [hB.out]
    change Code.wp _ _ _ _ (w.alloc (.cells #[.int .i64 r.E, .int .i64 r.Value, .slice p n cap] 40))
    rw [hv.out]
    go_wp2_with fail
    with_reducible refine cM.out.mono ?_
    rintro e w1 ⟨rfl, hb1⟩
    obtain ⟨r0, r1, r2⟩ := hS.out w1 hb1
    have hs1 := hb1.size
    have cL1 : Calls Try.prog 30 #[.slice none 0 0, .int .i64 r.E, .int .i64 1] w1 fun e w' => ∃ b, e = .returned b ∧ Laid w1 w' (.slice none 0 0) b ([] ++ bes 1 (toU r.E)) := lay30_any (.slice none 0 0) [] r.E 1 w1 (Row.nil w1) (by omega) (by simp)
    replace hb1 := Lib.hid hb1
    replace cL1 := Lib.hid cL1
    go_wp2_with fail
    with_reducible refine cL1.out.mono ?_
    rintro e w2 ⟨b1, rfl, hL1⟩
    have hP1 : PtSt v b1 ([] ++ bes 1 (toU r.E)) w2 := PtSt.laid ⟨Row.nil w1, (fun _ h => by cases h), hb1.out⟩ hL1
    obtain ⟨s0, s1, s2⟩ := hS.out w2 hP1.blw
    have cL2 : Calls Try.prog 31 #[b1, .int .i64 r.Value, .int .i64 8] w2 fun e w' => ∃ b, e = .returned b ∧ Laid w2 w' b1 b (([] ++ bes 1 (toU r.E)) ++ bes 8 (toU r.Value)) := lay31_any b1 _ r.Value 8 w2 hP1.row (by omega) (by rw [List.nil_append, bes_length]; omega)
    replace hP1 := Lib.hid hP1
    replace hL1 := Lib.hid hL1
    replace cL2 := Lib.hid cL2
    go_wp2_with fail
    with_reducible refine cL2.out.mono ?_
    rintro e w3 ⟨b2, rfl, hL2⟩
    have hP2 := hP1.out.laid hL2
    obtain ⟨t0, t1, t2⟩ := hS.out w3 hP2.blw
    have cL3 : Calls Try.prog 32 #[b2, .int .i64 (n : Int), .int .i64 2] w3 fun e w' => ∃ b, e = .returned b ∧ Laid w3 w' b2 b ((([] ++ bes 1 (toU r.E)) ++ bes 8 (toU r.Value)) ++ bes 2 (toU (n : Int))) := lay32_any b2 _ (n : Int) 2 w3 hP2.row (by omega) (by rw [List.nil_append, List.length_append, bes_length, bes_length]; omega)
    replace hP2 := Lib.hid hP2
    replace hL2 := Lib.hid hL2
    replace cL3 := Lib.hid cL3
    go_wp2_with fail
    with_reducible refine cL3.out.mono ?_
    rintro e w4 ⟨b3, rfl, hL3⟩
    have hP3 := hP2.out.laid hL3
    obtain ⟨u0, u1, u2⟩ := hS.out w4 hP3.blw
    have hhead : (([] ++ bes 1 (toU r.E)) ++ bes 8 (toU r.Value)) ++ bes 2 (toU (n : Int)) = headP r ++ idsB (r.Ids.take 0) := by
      rw [hlu.out, List.take_zero]
      have e : bes 1 (toU r.E) = [UInt8.ofNat (toU r.E % 256)] := by unfold bes; rw [Nat.pow_zero, Nat.div_one]; rfl
      unfold headP idsB
      rw [e, hnl]
      simp
    rw [hhead] at hP3
    replace hP3 := Lib.hid hP3
    replace hL3 := Lib.hid hL3
    replace hhead := Lib.hid hhead
    clear r0 r1 r2 s0 s1 s2 t0 t1 t2 u0 u1 q0 q1
    go_wp2_with fail
    go_loopw [4, 25] (fun b i wr => ∃ k : Nat, k ≤ n ∧ i = .int .i64 k ∧ Hid (PtSt v b (headP r ++ idsB (r.Ids.take k)) wr)) (fun _ i _ => n - (intOf i).toNat)
    case atStart => exact ⟨0, by omega, rfl, hP3⟩
    case round =>
      obtain ⟨k, hk, rfl, hP⟩ := hrel
      by_cases hkn : k < n
      · have kz : (k : Int) < (n : Int) := by omega
        obtain ⟨hzl, hzc⟩ := hz0.kept hP.out.blw
        obtain ⟨b, off, rfl, hblt, hcell⟩ := hzc.resolve_left (by omega)
        have c1 := hcell k hkn
        have hlen : (headP r ++ idsB (r.Ids.take k)).length ≤ 16000000 := by rw [List.length_append, headP_length, ids_length, List.length_take]; omega
        have cL4 : Calls Try.prog 32 #[u4, .int .i64 (r.Ids.getD k 0), .int .i64 4] wr fun e w' => ∃ b, e = .returned b ∧ Laid wr w' u4 b ((headP r ++ idsB (r.Ids.take k)) ++ bes 4 (toU (r.Ids.getD k 0))) := lay32_any u4 _ (r.Ids.getD k 0) 4 wr hP.out.row (by omega) hlen
        have hit2 := hit.out k hkn
        rw [List.append_assoc, ← hit2] at cL4
        clear hcell hzc hit2
        generalize r.Ids.getD k 0 = x at *
        replace cL4 := Lib.hid cL4
        go_wp2_with fail
        with_reducible refine cL4.out.mono ?_
        rintro e w5 ⟨b5, rfl, hL5⟩
        have hP5 := hP.out.laid hL5
        replace hP5 := Lib.hid hP5
        replace hL5 := Lib.hid hL5
        go_wp2_with fail
        go_roundw
        case rel => exact ⟨k + 1, by omega, by go_num, hP5⟩
        case measure => simp [intOf]; omega
      · obtain rfl : k = n := by omega
        have kz : ¬ (k : Int) < (k : Int) := by omega
        have hPo := hP.out
        rw [← hnl, List.take_length, ← hph.out] at hPo
        have htx := hPo.row.text
        have hBl : Below B w wr := hB0.out.trans (hPo.blw.mono (Nat.le_of_lt hBv))
        replace hBl := Lib.hid hBl
        replace hPo := Lib.hid hPo
        go_wp2_with fail
        go_ret2
        exact ⟨rfl, hBl.out⟩
end Go.Proofs.Ytgcliallkfnhaaa
