/- The contract of the reference's Put. -/
import Derived.Test.YtgcliallkfnhaaaW3
namespace Go.Proofs.Ytgcliallkfnhaaa
open Go.RowKit
set_option linter.unusedVariables false

theorem wrap_toU (x : Int) : IntKind.u64.wrap x = ((toU x : Nat) : Int) := by
  unfold toU IntKind.wrap
  simp [IntKind.bits, IntKind.signed]
  omega
/-- a command's bytes, or none, with the error -/
def putV (c : Cmd) : Value := .tuple (if mayC c = true then #[sv (putC c), .int .i64 0] else #[.string ⟨#[]⟩, .int .i64 2])
theorem join_texts (a b : List UInt8) (w : World) (h : a.length + b.length ≤ 1000000) : (Op.stringOp .add (⟨a.toArray⟩ : ByteArray) (⟨b.toArray⟩ : ByteArray)).run Try.prog w = .ok (.string ⟨(a ++ b).toArray⟩) w := by
  rw [run_string_add_sum w _ _ (by rw [mk_size, mk_size]; omega), mk_append]
theorem pieces_le (c : Cmd) (n : Nat) (h : n ≤ 7) : (pieces c n).length ≤ 60 := by
  have h1 := pieces_length c n
  have h2 : ∀ n, pos c.Kind n ≤ 1 + 8 * n := fun n => by
    induction n with
    | zero => exact Nat.le_refl _
    | succ n ih => rw [pos]; have := wid_le n; split <;> omega
  have := h2 n
  omega

set_option maxHeartbeats 4000000 in
set_option maxRecDepth 100000 in
theorem putCR_any (c : Cmd) (w : World) :
    Calls Try.prog 9 #[.agg c.arr] w fun e w' => e = .returned (putV c) ∧ Below w.heap.size w w' := by
  have cU := usesR_any c.Kind
  have cN := numbersR_any c
  have cM := mayCR_any c
  have hB0 : Below w.heap.size w (w.alloc (.cells c.arr 29)) := (Below.refl _ _).alloc (Nat.le_refl _) _
  have hbx : (w.alloc (.cells c.arr 29)).heap[w.heap.size]? = some (.cells c.arr 29 (0, 0)) := heap_alloc_new w _
  have hcell : ∀ (v : World) (g : Nat), NumR v g c → ∀ i, i < 7 → v.cell? ⟨g, i, none⟩ = some (.int .i64 (c.num i)) := fun v g h i hi => h.cell hi
  unfold Cmd.arr at *
  generalize hv : w.alloc (.cells #[.int .i64 c.Kind, .int .i64 c.Member, .int .i64 c.Id, .int .i64 c.Other, .int .i64 c.Cur, .int .i64 c.Cur2, .int .i64 c.Amount, .int .i64 c.Amount2] 29) = v at *
  generalize hB : w.heap.size = B at *
  have hld : ∀ w', Below v.heap.size v w' → w'.heap[B]? = some (.cells #[.int .i64 c.Kind, .int .i64 c.Member, .int .i64 c.Id, .int .i64 c.Other, .int .i64 c.Cur, .int .i64 c.Cur2, .int .i64 c.Amount, .int .i64 c.Amount2] 29 (0, 0)) := fun w' hb => (hb.block B (obj_lt hbx)).trans hbx
  have hvs := obj_lt hbx
  unfold sv at cU
  have d0 : v.cell? ⟨B, 0, none⟩ = some (.int .i64 c.Kind) := obj_cell hbx rfl
  have d1 : v.cell? ⟨B, 1, none⟩ = some (.int .i64 c.Member) := obj_cell hbx rfl
  have d2 : v.cell? ⟨B, 2, none⟩ = some (.int .i64 c.Id) := obj_cell hbx rfl
  have d3 : v.cell? ⟨B, 3, none⟩ = some (.int .i64 c.Other) := obj_cell hbx rfl
  have d4 : v.cell? ⟨B, 4, none⟩ = some (.int .i64 c.Cur) := obj_cell hbx rfl
  have d5 : v.cell? ⟨B, 5, none⟩ = some (.int .i64 c.Cur2) := obj_cell hbx rfl
  have d6 : v.cell? ⟨B, 6, none⟩ = some (.int .i64 c.Amount) := obj_cell hbx rfl
  have d7 : v.cell? ⟨B, 7, none⟩ = some (.int .i64 c.Amount2) := obj_cell hbx rfl
  replace hv := Lib.hid hv
  replace hB := Lib.hid hB
  replace hB0 := Lib.hid hB0
  replace hbx := Lib.hid hbx
  replace cU := Lib.hid cU
  replace cN := Lib.hid cN
  replace cM := Lib.hid cM
  replace hcell := Lib.hid hcell
  replace hld := Lib.hid hld
  go_enter Try.func9, Try.ntmps9
  go_upto_region 1 with (fail)
  rw [hB.out]
  change Code.wp _ _ _ _ (w.alloc (.cells #[.int .i64 c.Kind, .int .i64 c.Member, .int .i64 c.Id, .int .i64 c.Other, .int .i64 c.Cur, .int .i64 c.Cur2, .int .i64 c.Amount, .int .i64 c.Amount2] 29))
  rw [hv.out]
  go_wp2_with fail
  with_reducible refine (cM.out _).mono ?_
  rintro e w1 ⟨rfl, hb1⟩
  by_cases hm : mayC c = true
  · rw [hm]
    have hpv : putV c = .tuple #[sv (putC c), .int .i64 0] := by unfold putV; rw [if_pos hm]
    obtain ⟨hk, hmN⟩ := (mayC_iff c).1 hm
    have hkb := known_bnd hk
    obtain ⟨hk1, hk9⟩ := hkb
    have hkB := kind_byte hk
    have hconv := bytes_text (w1.alloc (.cells #[.int .u8 c.Kind] 5)) w1.heap.size 1 1 [UInt8.ofNat (toU c.Kind % 256)] (by
      unfold BRow Lib.byteCells
      simp only [List.map_cons, List.map_nil, hkB]
      exact heap_alloc_new w1 _) rfl
    have hb1' : Below v.heap.size v (w1.alloc (.cells #[.int .u8 c.Kind] 5)) := hb1.alloc hb1.size _
    have l0 := hld.out _ hb1
    have l1 := hld.out _ hb1'
    generalize hw2 : w1.alloc (.cells #[.int .u8 c.Kind] 5) = w2 at *
    have k1 : w1.cell? ⟨B, 0, none⟩ = some (.int .i64 c.Kind) := obj_cell l0 rfl
    have k2 : w2.cell? ⟨B, 0, none⟩ = some (.int .i64 c.Kind) := obj_cell l1 rfl
    have m1 : w2.cell? ⟨B, 1, none⟩ = some (.int .i64 c.Member) := obj_cell l1 rfl
    have m2 : w2.cell? ⟨B, 2, none⟩ = some (.int .i64 c.Id) := obj_cell l1 rfl
    have m3 : w2.cell? ⟨B, 3, none⟩ = some (.int .i64 c.Other) := obj_cell l1 rfl
    have m4 : w2.cell? ⟨B, 4, none⟩ = some (.int .i64 c.Cur) := obj_cell l1 rfl
    have m5 : w2.cell? ⟨B, 5, none⟩ = some (.int .i64 c.Cur2) := obj_cell l1 rfl
    have m6 : w2.cell? ⟨B, 6, none⟩ = some (.int .i64 c.Amount) := obj_cell l1 rfl
    have m7 : w2.cell? ⟨B, 7, none⟩ = some (.int .i64 c.Amount2) := obj_cell l1 rfl
    have hU := uses_text hk
    generalize hX : (⟨[UInt8.ofNat (toU c.Kind % 256)].toArray⟩ : ByteArray) = X at *
    generalize hkU : (⟨(usesL c.Kind).toArray⟩ : ByteArray) = U at *
    have hUs := hU.size
    replace hU := Lib.hid hU
    replace hX := Lib.hid hX
    replace hkU := Lib.hid hkU
    replace hpv := Lib.hid hpv
    replace hkB := Lib.hid hkB
    replace hmN := Lib.hid hmN
    replace l0 := Lib.hid l0
    replace l1 := Lib.hid l1
    replace hb1 := Lib.hid hb1
    replace hb1' := Lib.hid hb1'
    go_upto_region 4 with (fail)
    try rw [hw2]
    go_wp2_with fail
    with_reducible refine (cU.out _).mono ?_
    rintro e w3 ⟨rfl, rfl⟩
    try rw [hkU.out]
    go_wp2_with fail
    with_reducible refine (cN.out _).mono ?_
    rintro e w3 ⟨g, rfl, hN, hg, hB3⟩
    have hBw : Below B w w3 := hB0.out.trans ((hb1'.out.trans (hB3.mono hb1'.out.size)).mono (by omega))
    clear d0 d1 d2 d3 d4 d5 d6 d7 m1 m2 m3 m4 m5 m6 m7 k1 k2 cN cU cM hconv
    replace hN := Lib.hid hN
    replace hB3 := Lib.hid hB3
    have hS0 : X = ⟨(UInt8.ofNat (toU c.Kind % 256) :: pieces c 0).toArray⟩ := hX.out.symm
    replace hS0 := Lib.hid hS0
    replace hBw := Lib.hid hBw
    go_wp2_with fail
    go_loopw [4, 7] (fun s i wr => ∃ k : Nat, k ≤ 7 ∧ i = .int .i64 k ∧ s = .string ⟨(UInt8.ofNat (toU c.Kind % 256) :: pieces c k).toArray⟩ ∧ Hid (NumR wr g c ∧ Below B w wr)) (fun _ i _ => 7 - (intOf i).toNat)
    case atStart => exact ⟨0, by omega, rfl, by rw [hS0.out], Lib.hid ⟨hN.out, hBw.out⟩⟩
    case round =>
      obtain ⟨k, hk7, rfl, rfl, hR⟩ := hrel
      by_cases h7 : k = 7
      · subst h7
        have hS7 : putV c = .tuple #[.string ⟨(UInt8.ofNat (toU c.Kind % 256) :: pieces c 7).toArray⟩, .int .i64 0] := hpv.out
        generalize (⟨(UInt8.ofNat (toU c.Kind % 256) :: pieces c 7).toArray⟩ : ByteArray) = S at *
        replace hS7 := Lib.hid hS7
        go_wp2_with fail
        go_ret2
        exact ⟨by rw [hS7.out]; rfl, hR.out.2⟩
      have hcs : k = 0 ∨ k = 1 ∨ k = 2 ∨ k = 3 ∨ k = 4 ∨ k = 5 ∨ k = 6 := by omega
      rcases hcs with rfl | rfl | rfl | rfl | rfl | rfl | rfl
      · have cx := hR.out.1.cell (i := 0) (by omega)
        have hpl := pieces_le c 0 (by omega)
        cases hu : hasN c.Kind 0 with
        | false =>
          have hb := hU.out.free 0 (by omega) hu
          have hnx : pieces c 1 = pieces c 0 := by show pieces c 0 ++ piece c 0 = _; unfold piece; rw [hu]; simp
          have hN2 : Hid ((⟨(UInt8.ofNat (toU c.Kind % 256) :: pieces c 1).toArray⟩ : ByteArray) = ⟨(UInt8.ofNat (toU c.Kind % 256) :: pieces c 0).toArray⟩) := Lib.hid (by rw [hnx])
          generalize (⟨(UInt8.ofNat (toU c.Kind % 256) :: pieces c 0).toArray⟩ : ByteArray) = S at *
          replace hnx := Lib.hid hnx
          generalize c.num 0 = x at *
          go_wp2_with fail
          go_roundw
          case rel => exact ⟨1, by omega, by go_num, by rw [hN2.out], hR⟩
          case measure => simp [intOf]
        | true =>
          have hb := hU.out.used 0 (by omega) hu
          have hnx : pieces c 1 = pieces c 0 ++ bes 1 (toU (c.num 0)) := by show pieces c 0 ++ piece c 0 = _; unfold piece; rw [hu]; rfl
          have cL : ∀ w, Calls Try.prog 23 #[.int .u64 ((toU (c.num 0) : Nat) : Int), .int .i64 1] w fun e w' => e = .returned (sv (bes 1 (toU (c.num 0)))) ∧ Below w.heap.size w w' := fun w => layR_any (toU (c.num 0)) 1 w (toU_lt _) (by omega)
          have hby : ((⟨#[49, 52, 49, 49, 49, 56, 56]⟩ : ByteArray)[0]'(by decide)).toNat = 49 := rfl
          have hwr := wrap_toU (c.num 0)
          have hadd := fun w => join_texts (UInt8.ofNat (toU c.Kind % 256) :: pieces c 0) (bes 1 (toU (c.num 0))) w (by rw [bes_length, List.length_cons]; omega)
          rw [List.cons_append, ← hnx] at hadd
          unfold sv at cL
          generalize (⟨(UInt8.ofNat (toU c.Kind % 256) :: pieces c 0).toArray⟩ : ByteArray) = S at *
          generalize (⟨(bes 1 (toU (c.num 0))).toArray⟩ : ByteArray) = S2 at *
          generalize hS3 : (⟨(UInt8.ofNat (toU c.Kind % 256) :: pieces c 1).toArray⟩ : ByteArray) = S3 at *
          generalize toU (c.num 0) = y at *
          generalize c.num 0 = x at *
          replace hnx := Lib.hid hnx
          replace hS3 := Lib.hid hS3
          replace cL := Lib.hid cL
          go_upto_region 10 with (fail)
          have hst : Hid (Below wr.heap.size wr wr.drew) := Lib.hid (Below.refl _ _).drew
          have cx2 : wr.drew.cell? ⟨g, 0, none⟩ = some (.int .i64 x) := cx
          go_region_held3 (fun w' => w'.cell? ⟨g, 0, none⟩ = some (.int .i64 x)) (first | exact cx | exact cx2 | exact hHeld | exact cx3)
            (first | (go_at_call 23; (rw [show IntKind.i64.wrap (IntKind.i64.wrap 49 - 48) = 1 by decide]); (with_reducible refine (cL.out _).mono ?_); rintro e w4 ⟨rfl, hb4⟩; have hb4' : Below wr.heap.size wr w4 := hst.out.trans hb4; have cx3 := (hb4'.cell (p := ⟨g, 0, none⟩) hR.out.1.lt).trans cx; replace hb4' := Lib.hid hb4'))
          all_goals
            go_wp2_with fail
            go_roundw
            case rel => exact ⟨1, by omega, by go_num, by rw [hS3.out], Lib.hid ⟨hR.out.1.kept hb4'.out, hR.out.2.trans (hb4'.out.mono (hB.out ▸ hR.out.2.size))⟩⟩
            case measure => simp [intOf]
      · have cx := hR.out.1.cell (i := 1) (by omega)
        have hpl := pieces_le c 1 (by omega)
        cases hu : hasN c.Kind 1 with
        | false =>
          have hb := hU.out.free 1 (by omega) hu
          have hnx : pieces c 2 = pieces c 1 := by show pieces c 1 ++ piece c 1 = _; unfold piece; rw [hu]; simp
          have hN2 : Hid ((⟨(UInt8.ofNat (toU c.Kind % 256) :: pieces c 2).toArray⟩ : ByteArray) = ⟨(UInt8.ofNat (toU c.Kind % 256) :: pieces c 1).toArray⟩) := Lib.hid (by rw [hnx])
          generalize (⟨(UInt8.ofNat (toU c.Kind % 256) :: pieces c 1).toArray⟩ : ByteArray) = S at *
          replace hnx := Lib.hid hnx
          generalize c.num 1 = x at *
          go_wp2_with fail
          go_roundw
          case rel => exact ⟨2, by omega, by go_num, by rw [hN2.out], hR⟩
          case measure => simp [intOf]
        | true =>
          have hb := hU.out.used 1 (by omega) hu
          have hnx : pieces c 2 = pieces c 1 ++ bes 4 (toU (c.num 1)) := by show pieces c 1 ++ piece c 1 = _; unfold piece; rw [hu]; rfl
          have cL : ∀ w, Calls Try.prog 23 #[.int .u64 ((toU (c.num 1) : Nat) : Int), .int .i64 4] w fun e w' => e = .returned (sv (bes 4 (toU (c.num 1)))) ∧ Below w.heap.size w w' := fun w => layR_any (toU (c.num 1)) 4 w (toU_lt _) (by omega)
          have hby : ((⟨#[49, 52, 49, 49, 49, 56, 56]⟩ : ByteArray)[1]'(by decide)).toNat = 52 := rfl
          have hwr := wrap_toU (c.num 1)
          have hadd := fun w => join_texts (UInt8.ofNat (toU c.Kind % 256) :: pieces c 1) (bes 4 (toU (c.num 1))) w (by rw [bes_length, List.length_cons]; omega)
          rw [List.cons_append, ← hnx] at hadd
          unfold sv at cL
          generalize (⟨(UInt8.ofNat (toU c.Kind % 256) :: pieces c 1).toArray⟩ : ByteArray) = S at *
          generalize (⟨(bes 4 (toU (c.num 1))).toArray⟩ : ByteArray) = S2 at *
          generalize hS3 : (⟨(UInt8.ofNat (toU c.Kind % 256) :: pieces c 2).toArray⟩ : ByteArray) = S3 at *
          generalize toU (c.num 1) = y at *
          generalize c.num 1 = x at *
          replace hnx := Lib.hid hnx
          replace hS3 := Lib.hid hS3
          replace cL := Lib.hid cL
          go_upto_region 10 with (fail)
          have hst : Hid (Below wr.heap.size wr wr.drew) := Lib.hid (Below.refl _ _).drew
          have cx2 : wr.drew.cell? ⟨g, 1, none⟩ = some (.int .i64 x) := cx
          go_region_held3 (fun w' => w'.cell? ⟨g, 1, none⟩ = some (.int .i64 x)) (first | exact cx | exact cx2 | exact hHeld | exact cx3)
            (first | (go_at_call 23; (rw [show IntKind.i64.wrap (IntKind.i64.wrap 52 - 48) = 4 by decide]); (with_reducible refine (cL.out _).mono ?_); rintro e w4 ⟨rfl, hb4⟩; have hb4' : Below wr.heap.size wr w4 := hst.out.trans hb4; have cx3 := (hb4'.cell (p := ⟨g, 1, none⟩) hR.out.1.lt).trans cx; replace hb4' := Lib.hid hb4'))
          all_goals
            go_wp2_with fail
            go_roundw
            case rel => exact ⟨2, by omega, by go_num, by rw [hS3.out], Lib.hid ⟨hR.out.1.kept hb4'.out, hR.out.2.trans (hb4'.out.mono (hB.out ▸ hR.out.2.size))⟩⟩
            case measure => simp [intOf]
      · have cx := hR.out.1.cell (i := 2) (by omega)
        have hpl := pieces_le c 2 (by omega)
        cases hu : hasN c.Kind 2 with
        | false =>
          have hb := hU.out.free 2 (by omega) hu
          have hnx : pieces c 3 = pieces c 2 := by show pieces c 2 ++ piece c 2 = _; unfold piece; rw [hu]; simp
          have hN2 : Hid ((⟨(UInt8.ofNat (toU c.Kind % 256) :: pieces c 3).toArray⟩ : ByteArray) = ⟨(UInt8.ofNat (toU c.Kind % 256) :: pieces c 2).toArray⟩) := Lib.hid (by rw [hnx])
          generalize (⟨(UInt8.ofNat (toU c.Kind % 256) :: pieces c 2).toArray⟩ : ByteArray) = S at *
          replace hnx := Lib.hid hnx
          generalize c.num 2 = x at *
          go_wp2_with fail
          go_roundw
          case rel => exact ⟨3, by omega, by go_num, by rw [hN2.out], hR⟩
          case measure => simp [intOf]
        | true =>
          have hb := hU.out.used 2 (by omega) hu
          have hnx : pieces c 3 = pieces c 2 ++ bes 1 (toU (c.num 2)) := by show pieces c 2 ++ piece c 2 = _; unfold piece; rw [hu]; rfl
          have cL : ∀ w, Calls Try.prog 23 #[.int .u64 ((toU (c.num 2) : Nat) : Int), .int .i64 1] w fun e w' => e = .returned (sv (bes 1 (toU (c.num 2)))) ∧ Below w.heap.size w w' := fun w => layR_any (toU (c.num 2)) 1 w (toU_lt _) (by omega)
          have hby : ((⟨#[49, 52, 49, 49, 49, 56, 56]⟩ : ByteArray)[2]'(by decide)).toNat = 49 := rfl
          have hwr := wrap_toU (c.num 2)
          have hadd := fun w => join_texts (UInt8.ofNat (toU c.Kind % 256) :: pieces c 2) (bes 1 (toU (c.num 2))) w (by rw [bes_length, List.length_cons]; omega)
          rw [List.cons_append, ← hnx] at hadd
          unfold sv at cL
          generalize (⟨(UInt8.ofNat (toU c.Kind % 256) :: pieces c 2).toArray⟩ : ByteArray) = S at *
          generalize (⟨(bes 1 (toU (c.num 2))).toArray⟩ : ByteArray) = S2 at *
          generalize hS3 : (⟨(UInt8.ofNat (toU c.Kind % 256) :: pieces c 3).toArray⟩ : ByteArray) = S3 at *
          generalize toU (c.num 2) = y at *
          generalize c.num 2 = x at *
          replace hnx := Lib.hid hnx
          replace hS3 := Lib.hid hS3
          replace cL := Lib.hid cL
          go_upto_region 10 with (fail)
          have hst : Hid (Below wr.heap.size wr wr.drew) := Lib.hid (Below.refl _ _).drew
          have cx2 : wr.drew.cell? ⟨g, 2, none⟩ = some (.int .i64 x) := cx
          go_region_held3 (fun w' => w'.cell? ⟨g, 2, none⟩ = some (.int .i64 x)) (first | exact cx | exact cx2 | exact hHeld | exact cx3)
            (first | (go_at_call 23; (rw [show IntKind.i64.wrap (IntKind.i64.wrap 49 - 48) = 1 by decide]); (with_reducible refine (cL.out _).mono ?_); rintro e w4 ⟨rfl, hb4⟩; have hb4' : Below wr.heap.size wr w4 := hst.out.trans hb4; have cx3 := (hb4'.cell (p := ⟨g, 2, none⟩) hR.out.1.lt).trans cx; replace hb4' := Lib.hid hb4'))
          all_goals
            go_wp2_with fail
            go_roundw
            case rel => exact ⟨3, by omega, by go_num, by rw [hS3.out], Lib.hid ⟨hR.out.1.kept hb4'.out, hR.out.2.trans (hb4'.out.mono (hB.out ▸ hR.out.2.size))⟩⟩
            case measure => simp [intOf]
      · have cx := hR.out.1.cell (i := 3) (by omega)
        have hpl := pieces_le c 3 (by omega)
        cases hu : hasN c.Kind 3 with
        | false =>
          have hb := hU.out.free 3 (by omega) hu
          have hnx : pieces c 4 = pieces c 3 := by show pieces c 3 ++ piece c 3 = _; unfold piece; rw [hu]; simp
          have hN2 : Hid ((⟨(UInt8.ofNat (toU c.Kind % 256) :: pieces c 4).toArray⟩ : ByteArray) = ⟨(UInt8.ofNat (toU c.Kind % 256) :: pieces c 3).toArray⟩) := Lib.hid (by rw [hnx])
          generalize (⟨(UInt8.ofNat (toU c.Kind % 256) :: pieces c 3).toArray⟩ : ByteArray) = S at *
          replace hnx := Lib.hid hnx
          generalize c.num 3 = x at *
          go_wp2_with fail
          go_roundw
          case rel => exact ⟨4, by omega, by go_num, by rw [hN2.out], hR⟩
          case measure => simp [intOf]
        | true =>
          have hb := hU.out.used 3 (by omega) hu
          have hnx : pieces c 4 = pieces c 3 ++ bes 1 (toU (c.num 3)) := by show pieces c 3 ++ piece c 3 = _; unfold piece; rw [hu]; rfl
          have cL : ∀ w, Calls Try.prog 23 #[.int .u64 ((toU (c.num 3) : Nat) : Int), .int .i64 1] w fun e w' => e = .returned (sv (bes 1 (toU (c.num 3)))) ∧ Below w.heap.size w w' := fun w => layR_any (toU (c.num 3)) 1 w (toU_lt _) (by omega)
          have hby : ((⟨#[49, 52, 49, 49, 49, 56, 56]⟩ : ByteArray)[3]'(by decide)).toNat = 49 := rfl
          have hwr := wrap_toU (c.num 3)
          have hadd := fun w => join_texts (UInt8.ofNat (toU c.Kind % 256) :: pieces c 3) (bes 1 (toU (c.num 3))) w (by rw [bes_length, List.length_cons]; omega)
          rw [List.cons_append, ← hnx] at hadd
          unfold sv at cL
          generalize (⟨(UInt8.ofNat (toU c.Kind % 256) :: pieces c 3).toArray⟩ : ByteArray) = S at *
          generalize (⟨(bes 1 (toU (c.num 3))).toArray⟩ : ByteArray) = S2 at *
          generalize hS3 : (⟨(UInt8.ofNat (toU c.Kind % 256) :: pieces c 4).toArray⟩ : ByteArray) = S3 at *
          generalize toU (c.num 3) = y at *
          generalize c.num 3 = x at *
          replace hnx := Lib.hid hnx
          replace hS3 := Lib.hid hS3
          replace cL := Lib.hid cL
          go_upto_region 10 with (fail)
          have hst : Hid (Below wr.heap.size wr wr.drew) := Lib.hid (Below.refl _ _).drew
          have cx2 : wr.drew.cell? ⟨g, 3, none⟩ = some (.int .i64 x) := cx
          go_region_held3 (fun w' => w'.cell? ⟨g, 3, none⟩ = some (.int .i64 x)) (first | exact cx | exact cx2 | exact hHeld | exact cx3)
            (first | (go_at_call 23; (rw [show IntKind.i64.wrap (IntKind.i64.wrap 49 - 48) = 1 by decide]); (with_reducible refine (cL.out _).mono ?_); rintro e w4 ⟨rfl, hb4⟩; have hb4' : Below wr.heap.size wr w4 := hst.out.trans hb4; have cx3 := (hb4'.cell (p := ⟨g, 3, none⟩) hR.out.1.lt).trans cx; replace hb4' := Lib.hid hb4'))
          all_goals
            go_wp2_with fail
            go_roundw
            case rel => exact ⟨4, by omega, by go_num, by rw [hS3.out], Lib.hid ⟨hR.out.1.kept hb4'.out, hR.out.2.trans (hb4'.out.mono (hB.out ▸ hR.out.2.size))⟩⟩
            case measure => simp [intOf]
      · have cx := hR.out.1.cell (i := 4) (by omega)
        have hpl := pieces_le c 4 (by omega)
        cases hu : hasN c.Kind 4 with
        | false =>
          have hb := hU.out.free 4 (by omega) hu
          have hnx : pieces c 5 = pieces c 4 := by show pieces c 4 ++ piece c 4 = _; unfold piece; rw [hu]; simp
          have hN2 : Hid ((⟨(UInt8.ofNat (toU c.Kind % 256) :: pieces c 5).toArray⟩ : ByteArray) = ⟨(UInt8.ofNat (toU c.Kind % 256) :: pieces c 4).toArray⟩) := Lib.hid (by rw [hnx])
          generalize (⟨(UInt8.ofNat (toU c.Kind % 256) :: pieces c 4).toArray⟩ : ByteArray) = S at *
          replace hnx := Lib.hid hnx
          generalize c.num 4 = x at *
          go_wp2_with fail
          go_roundw
          case rel => exact ⟨5, by omega, by go_num, by rw [hN2.out], hR⟩
          case measure => simp [intOf]
        | true =>
          have hb := hU.out.used 4 (by omega) hu
          have hnx : pieces c 5 = pieces c 4 ++ bes 1 (toU (c.num 4)) := by show pieces c 4 ++ piece c 4 = _; unfold piece; rw [hu]; rfl
          have cL : ∀ w, Calls Try.prog 23 #[.int .u64 ((toU (c.num 4) : Nat) : Int), .int .i64 1] w fun e w' => e = .returned (sv (bes 1 (toU (c.num 4)))) ∧ Below w.heap.size w w' := fun w => layR_any (toU (c.num 4)) 1 w (toU_lt _) (by omega)
          have hby : ((⟨#[49, 52, 49, 49, 49, 56, 56]⟩ : ByteArray)[4]'(by decide)).toNat = 49 := rfl
          have hwr := wrap_toU (c.num 4)
          have hadd := fun w => join_texts (UInt8.ofNat (toU c.Kind % 256) :: pieces c 4) (bes 1 (toU (c.num 4))) w (by rw [bes_length, List.length_cons]; omega)
          rw [List.cons_append, ← hnx] at hadd
          unfold sv at cL
          generalize (⟨(UInt8.ofNat (toU c.Kind % 256) :: pieces c 4).toArray⟩ : ByteArray) = S at *
          generalize (⟨(bes 1 (toU (c.num 4))).toArray⟩ : ByteArray) = S2 at *
          generalize hS3 : (⟨(UInt8.ofNat (toU c.Kind % 256) :: pieces c 5).toArray⟩ : ByteArray) = S3 at *
          generalize toU (c.num 4) = y at *
          generalize c.num 4 = x at *
          replace hnx := Lib.hid hnx
          replace hS3 := Lib.hid hS3
          replace cL := Lib.hid cL
          go_upto_region 10 with (fail)
          have hst : Hid (Below wr.heap.size wr wr.drew) := Lib.hid (Below.refl _ _).drew
          have cx2 : wr.drew.cell? ⟨g, 4, none⟩ = some (.int .i64 x) := cx
          go_region_held3 (fun w' => w'.cell? ⟨g, 4, none⟩ = some (.int .i64 x)) (first | exact cx | exact cx2 | exact hHeld | exact cx3)
            (first | (go_at_call 23; (rw [show IntKind.i64.wrap (IntKind.i64.wrap 49 - 48) = 1 by decide]); (with_reducible refine (cL.out _).mono ?_); rintro e w4 ⟨rfl, hb4⟩; have hb4' : Below wr.heap.size wr w4 := hst.out.trans hb4; have cx3 := (hb4'.cell (p := ⟨g, 4, none⟩) hR.out.1.lt).trans cx; replace hb4' := Lib.hid hb4'))
          all_goals
            go_wp2_with fail
            go_roundw
            case rel => exact ⟨5, by omega, by go_num, by rw [hS3.out], Lib.hid ⟨hR.out.1.kept hb4'.out, hR.out.2.trans (hb4'.out.mono (hB.out ▸ hR.out.2.size))⟩⟩
            case measure => simp [intOf]
      · have cx := hR.out.1.cell (i := 5) (by omega)
        have hpl := pieces_le c 5 (by omega)
        cases hu : hasN c.Kind 5 with
        | false =>
          have hb := hU.out.free 5 (by omega) hu
          have hnx : pieces c 6 = pieces c 5 := by show pieces c 5 ++ piece c 5 = _; unfold piece; rw [hu]; simp
          have hN2 : Hid ((⟨(UInt8.ofNat (toU c.Kind % 256) :: pieces c 6).toArray⟩ : ByteArray) = ⟨(UInt8.ofNat (toU c.Kind % 256) :: pieces c 5).toArray⟩) := Lib.hid (by rw [hnx])
          generalize (⟨(UInt8.ofNat (toU c.Kind % 256) :: pieces c 5).toArray⟩ : ByteArray) = S at *
          replace hnx := Lib.hid hnx
          generalize c.num 5 = x at *
          go_wp2_with fail
          go_roundw
          case rel => exact ⟨6, by omega, by go_num, by rw [hN2.out], hR⟩
          case measure => simp [intOf]
        | true =>
          have hb := hU.out.used 5 (by omega) hu
          have hnx : pieces c 6 = pieces c 5 ++ bes 8 (toU (c.num 5)) := by show pieces c 5 ++ piece c 5 = _; unfold piece; rw [hu]; rfl
          have cL : ∀ w, Calls Try.prog 23 #[.int .u64 ((toU (c.num 5) : Nat) : Int), .int .i64 8] w fun e w' => e = .returned (sv (bes 8 (toU (c.num 5)))) ∧ Below w.heap.size w w' := fun w => layR_any (toU (c.num 5)) 8 w (toU_lt _) (by omega)
          have hby : ((⟨#[49, 52, 49, 49, 49, 56, 56]⟩ : ByteArray)[5]'(by decide)).toNat = 56 := rfl
          have hwr := wrap_toU (c.num 5)
          have hadd := fun w => join_texts (UInt8.ofNat (toU c.Kind % 256) :: pieces c 5) (bes 8 (toU (c.num 5))) w (by rw [bes_length, List.length_cons]; omega)
          rw [List.cons_append, ← hnx] at hadd
          unfold sv at cL
          generalize (⟨(UInt8.ofNat (toU c.Kind % 256) :: pieces c 5).toArray⟩ : ByteArray) = S at *
          generalize (⟨(bes 8 (toU (c.num 5))).toArray⟩ : ByteArray) = S2 at *
          generalize hS3 : (⟨(UInt8.ofNat (toU c.Kind % 256) :: pieces c 6).toArray⟩ : ByteArray) = S3 at *
          generalize toU (c.num 5) = y at *
          generalize c.num 5 = x at *
          replace hnx := Lib.hid hnx
          replace hS3 := Lib.hid hS3
          replace cL := Lib.hid cL
          go_upto_region 10 with (fail)
          have hst : Hid (Below wr.heap.size wr wr.drew) := Lib.hid (Below.refl _ _).drew
          have cx2 : wr.drew.cell? ⟨g, 5, none⟩ = some (.int .i64 x) := cx
          go_region_held3 (fun w' => w'.cell? ⟨g, 5, none⟩ = some (.int .i64 x)) (first | exact cx | exact cx2 | exact hHeld | exact cx3)
            (first | (go_at_call 23; (rw [show IntKind.i64.wrap (IntKind.i64.wrap 56 - 48) = 8 by decide]); (with_reducible refine (cL.out _).mono ?_); rintro e w4 ⟨rfl, hb4⟩; have hb4' : Below wr.heap.size wr w4 := hst.out.trans hb4; have cx3 := (hb4'.cell (p := ⟨g, 5, none⟩) hR.out.1.lt).trans cx; replace hb4' := Lib.hid hb4'))
          all_goals
            go_wp2_with fail
            go_roundw
            case rel => exact ⟨6, by omega, by go_num, by rw [hS3.out], Lib.hid ⟨hR.out.1.kept hb4'.out, hR.out.2.trans (hb4'.out.mono (hB.out ▸ hR.out.2.size))⟩⟩
            case measure => simp [intOf]
      · have cx := hR.out.1.cell (i := 6) (by omega)
        have hpl := pieces_le c 6 (by omega)
        cases hu : hasN c.Kind 6 with
        | false =>
          have hb := hU.out.free 6 (by omega) hu
          have hnx : pieces c 7 = pieces c 6 := by show pieces c 6 ++ piece c 6 = _; unfold piece; rw [hu]; simp
          have hN2 : Hid ((⟨(UInt8.ofNat (toU c.Kind % 256) :: pieces c 7).toArray⟩ : ByteArray) = ⟨(UInt8.ofNat (toU c.Kind % 256) :: pieces c 6).toArray⟩) := Lib.hid (by rw [hnx])
          generalize (⟨(UInt8.ofNat (toU c.Kind % 256) :: pieces c 6).toArray⟩ : ByteArray) = S at *
          replace hnx := Lib.hid hnx
          generalize c.num 6 = x at *
          go_wp2_with fail
          go_roundw
          case rel => exact ⟨7, by omega, by go_num, by rw [hN2.out], hR⟩
          case measure => simp [intOf]
        | true =>
          have hb := hU.out.used 6 (by omega) hu
          have hnx : pieces c 7 = pieces c 6 ++ bes 8 (toU (c.num 6)) := by show pieces c 6 ++ piece c 6 = _; unfold piece; rw [hu]; rfl
          have cL : ∀ w, Calls Try.prog 23 #[.int .u64 ((toU (c.num 6) : Nat) : Int), .int .i64 8] w fun e w' => e = .returned (sv (bes 8 (toU (c.num 6)))) ∧ Below w.heap.size w w' := fun w => layR_any (toU (c.num 6)) 8 w (toU_lt _) (by omega)
          have hby : ((⟨#[49, 52, 49, 49, 49, 56, 56]⟩ : ByteArray)[6]'(by decide)).toNat = 56 := rfl
          have hwr := wrap_toU (c.num 6)
          have hadd := fun w => join_texts (UInt8.ofNat (toU c.Kind % 256) :: pieces c 6) (bes 8 (toU (c.num 6))) w (by rw [bes_length, List.length_cons]; omega)
          rw [List.cons_append, ← hnx] at hadd
          unfold sv at cL
          generalize (⟨(UInt8.ofNat (toU c.Kind % 256) :: pieces c 6).toArray⟩ : ByteArray) = S at *
          generalize (⟨(bes 8 (toU (c.num 6))).toArray⟩ : ByteArray) = S2 at *
          generalize hS3 : (⟨(UInt8.ofNat (toU c.Kind % 256) :: pieces c 7).toArray⟩ : ByteArray) = S3 at *
          generalize toU (c.num 6) = y at *
          generalize c.num 6 = x at *
          replace hnx := Lib.hid hnx
          replace hS3 := Lib.hid hS3
          replace cL := Lib.hid cL
          go_upto_region 10 with (fail)
          have hst : Hid (Below wr.heap.size wr wr.drew) := Lib.hid (Below.refl _ _).drew
          have cx2 : wr.drew.cell? ⟨g, 6, none⟩ = some (.int .i64 x) := cx
          go_region_held3 (fun w' => w'.cell? ⟨g, 6, none⟩ = some (.int .i64 x)) (first | exact cx | exact cx2 | exact hHeld | exact cx3)
            (first | (go_at_call 23; (rw [show IntKind.i64.wrap (IntKind.i64.wrap 56 - 48) = 8 by decide]); (with_reducible refine (cL.out _).mono ?_); rintro e w4 ⟨rfl, hb4⟩; have hb4' : Below wr.heap.size wr w4 := hst.out.trans hb4; have cx3 := (hb4'.cell (p := ⟨g, 6, none⟩) hR.out.1.lt).trans cx; replace hb4' := Lib.hid hb4'))
          all_goals
            go_wp2_with fail
            go_roundw
            case rel => exact ⟨7, by omega, by go_num, by rw [hS3.out], Lib.hid ⟨hR.out.1.kept hb4'.out, hR.out.2.trans (hb4'.out.mono (hB.out ▸ hR.out.2.size))⟩⟩
            case measure => simp [intOf]
  · rw [show mayC c = false by simpa using hm]
    have hpv : putV c = .tuple #[.string ⟨#[]⟩, .int .i64 2] := by unfold putV; rw [if_neg hm]
    replace hpv := Lib.hid hpv
    go_wp2_with fail
    go_ret2
    exact ⟨by rw [hpv.out]; rfl, hB0.out.trans (hb1.mono (by omega))⟩
end Go.Proofs.Ytgcliallkfnhaaa
