/- The contract of the reference's larger. -/
import Derived.Test.YtljclgphgojphaaGreatR1
import Derived.Deep.RegionHeld3
namespace Go.Proofs.YtljclgphgojphaaGreat
open Go.RowKit
set_option linter.unusedVariables false

/-- which is greater -/
def cmp3 (a b : Int) : Int := if b < a then 1 else if a < b then -1 else 0

/-- the cells of two Bigs, each in a block of its own -/
def TwoB (w : World) (A B : Nat) (na nb : Bool) (pa pb : Option Addr) (la lb ca cb : Nat) : Prop :=
  w.cell? ⟨A, 0, none⟩ = some (.bool na) ∧ w.cell? ⟨A, 1, none⟩ = some (.slice pa la ca) ∧ w.cell? ⟨B, 0, none⟩ = some (.bool nb) ∧ w.cell? ⟨B, 1, none⟩ = some (.slice pb lb cb)
theorem TwoB.kept {w w' : World} {A B n : Nat} {na nb : Bool} {pa pb : Option Addr} {la lb ca cb : Nat} (h : TwoB w A B na nb pa pb la lb ca cb) (hb : Below n w w') (hA : A < n) (hB : B < n) : TwoB w' A B na nb pa pb la lb ca cb :=
  ⟨(hb.cell (p := ⟨A, 0, none⟩) hA).trans h.1, (hb.cell (p := ⟨A, 1, none⟩) hA).trans h.2.1, (hb.cell (p := ⟨B, 0, none⟩) hB).trans h.2.2.1, (hb.cell (p := ⟨B, 1, none⟩) hB).trans h.2.2.2⟩

/-- behind a call's beginning: its two Bigs lie in the first two blocks of its own; what was there is as it was -/
structure Hold (w W : World) (na nb : Bool) (pa pb : Option Addr) (la lb ca cb : Nat) (da db : List Int) : Prop where
  two : TwoB W w.heap.size (w.heap.size + 1) na nb pa pb la lb ca cb
  size : w.heap.size + 1 < W.heap.size
  bel : Below w.heap.size w W
  ra : DRow w pa la da
  rb : DRow w pb lb db
section
variable {w W W' : World} {na nb : Bool} {pa pb : Option Addr} {la lb ca cb : Nat} {da db : List Int}
theorem Hold.a (h : Hold w W na nb pa pb la lb ca cb da db) : DRow W pa la da := h.ra.kept h.bel
theorem Hold.b (h : Hold w W na nb pa pb la lb ca cb da db) : DRow W pb lb db := h.rb.kept h.bel
theorem Hold.keptTo {n : Nat} (h : Hold w W na nb pa pb la lb ca cb da db) (hb : Below n W W') (hn : w.heap.size + 2 ≤ n) : Hold w W' na nb pa pb la lb ca cb da db :=
  ⟨h.two.kept hb (by omega) (by omega), Nat.lt_of_lt_of_le h.size hb.size, h.bel.trans (hb.mono (by omega)), h.ra, h.rb⟩
theorem Hold.kept (h : Hold w W na nb pa pb la lb ca cb da db) (hb : Below W.heap.size W W') : Hold w W' na nb pa pb la lb ca cb da db := h.keptTo hb h.size
theorem Hold.drew (h : Hold w W na nb pa pb la lb ca cb da db) : Hold w W.drew na nb pa pb la lb ca cb da db := ⟨h.two, h.size, h.bel.drew, h.ra, h.rb⟩
theorem Hold.made (ha : DRow w pa la da) (hb : DRow w pb lb db) : Hold w ((w.alloc (Obj.cells #[Value.bool na, Value.slice pa la ca] 122)).alloc (Obj.cells #[Value.bool nb, Value.slice pb lb cb] 122)) na nb pa pb la lb ca cb da db := by
  have hB : Below w.heap.size w ((w.alloc (Obj.cells #[Value.bool na, Value.slice pa la ca] 122)).alloc (Obj.cells #[Value.bool nb, Value.slice pb lb cb] 122)) := ((Below.refl _ _).alloc (Nat.le_refl _) _).alloc (by simp) _
  exact ⟨⟨by go_simp, by go_simp, by go_simp, by go_simp⟩, by simp, hB, ha, hb⟩
theorem digA (h : Hold w W na nb pa pb la lb ca cb da db) (j : Nat) (hj : j ≤ 1000000) :
    Calls Tryz.prog 118 #[.agg #[.bool na, .slice pa la ca], .int .i64 j] W fun e W' => e = .returned (.int .i64 (dg da j)) ∧ Hold w W' na nb pa pb la lb ca cb da db ∧ Below W.heap.size W W' :=
  (digit_any na pa la ca j da W h.a (by omega)).mono fun e W' ⟨he, hb⟩ => ⟨he, h.kept hb, hb⟩
theorem digB (h : Hold w W na nb pa pb la lb ca cb da db) (j : Nat) (hj : j ≤ 1000000) :
    Calls Tryz.prog 118 #[.agg #[.bool nb, .slice pb lb cb], .int .i64 j] W fun e W' => e = .returned (.int .i64 (dg db j)) ∧ Hold w W' na nb pa pb la lb ca cb da db ∧ Below W.heap.size W W' :=
  (digit_any nb pb lb cb j db W h.b (by omega)).mono fun e W' ⟨he, hb⟩ => ⟨he, h.kept hb, hb⟩
end

set_option maxRecDepth 100000 in
set_option maxHeartbeats 2000000 in
theorem larger_any (na nb : Bool) (pa pb : Option Addr) (la lb ca cb : Nat) (da db : List Int) (w : World) (ha : DRow w pa la da) (hb : DRow w pb lb db) (hla : la ≤ 1000000) (hlb : lb ≤ 1000000) :
    Calls Tryz.prog 120 #[.agg #[.bool na, .slice pa la ca], .agg #[.bool nb, .slice pb lb cb]] w fun e w' => e = .returned (.int .i64 (cmp3 (val da) (val db))) ∧ Below w.heap.size w w' := by
  have fa := Lib.hid ha.2.1
  have fb := Lib.hid hb.2.1
  have la' := ha.1
  have lb' := hb.1
  obtain ⟨M, hM⟩ : ∃ M, M = max la lb := ⟨_, rfl⟩
  have ea : val da = dv (dg da) M := (val_ext (by rw [la']; omega)).symm
  have eb : val db = dv (dg db) M := (val_ext (by rw [lb']; omega)).symm
  have hH0 := Lib.hid (Hold.made (na := na) (nb := nb) (ca := ca) (cb := cb) ha hb)
  clear la' lb' ha hb
  replace ea := Lib.hid ea
  replace eb := Lib.hid eb
  have hM1 : M ≤ 1000000 := by omega
  replace hM := Lib.hid hM
  go_enter Tryz.func120, Tryz.ntmps120
  go_upto_region 1 with (fail)
  go_cut [5] (fun t wc => t = .int .i64 ((M : Int) - 1) ∧ wc = ((w.alloc (Obj.cells #[Value.bool na, Value.slice pa la ca] 122)).alloc (Obj.cells #[Value.bool nb, Value.slice pb lb cb] 122)))
  case first =>
    by_cases hlt : la < lb
    · go_wp2_with fail
      go_meet
      exact ⟨by rw [hM.out, Nat.max_eq_right (Nat.le_of_lt hlt)], rfl⟩
    · go_wp2_with fail
      go_meet
      exact ⟨by rw [hM.out, Nat.max_eq_left (by omega)], rfl⟩
  case rest =>
    obtain ⟨rfl, rfl⟩ := hcut
    go_wp2_with fail
    go_loopw [5] (fun t wr => ∃ k : Nat, k ≤ M ∧ t = .int .i64 ((k : Int) - 1) ∧ (∀ i, k ≤ i → i < M → dg da i = dg db i) ∧ Hold w wr na nb pa pb la lb ca cb da db)
      (fun t _ => (intOf t + 1).toNat)
    case atStart => exact ⟨M, Nat.le_refl _, rfl, fun i h1 h2 => by omega, hH0.out⟩
    case round =>
      obtain ⟨k, hk, rfl, heq, hH⟩ := hrel
      cases k with
      | zero =>
        have hfin : cmp3 (val da) (val db) = 0 := by
          have h1 := dv_agree (f := dg da) (g := dg db) (k := 0) (n := M) (Nat.zero_le _) (fun i a b => heq i a b)
          rw [ea.out, eb.out]
          simp only [dv] at h1
          unfold cmp3
          rw [if_neg (by omega), if_neg (by omega)]
        replace hfin := Lib.hid hfin
        replace hH := Lib.hid hH
        clear heq
        go_wp2_with fail
        go_ret
        exact ⟨by rw [hfin.out]; rfl, hH.out.bel⟩
      | succ j =>
        have ej : ((j + 1 : Nat) : Int) - 1 = (j : Int) := by omega
        rw [ej]
        clear ej
        have hc := hH.two
        replace heq := Lib.hid heq
        replace hH := Lib.hid hH
        go_upto_region 4 with (fail)
        go_region_held3 (fun w' => w'.cell? ⟨w.heap.size, 0, none⟩ = some (.bool na) ∧ w'.cell? ⟨w.heap.size, 1, none⟩ = some (.slice pa la ca) ∧ w'.cell? ⟨w.heap.size + 1, 0, none⟩ = some (.bool nb) ∧ w'.cell? ⟨w.heap.size + 1, 1, none⟩ = some (.slice pb lb cb))
          (first | exact hH.out.two | exact hH1.out.two | exact hH2.out.two)
          (first
            | (go_at_call 118; (with_reducible refine (digA (w := w) (nb := nb) (pb := pb) (lb := lb) (cb := cb) (db := db) (da := da) ?_ j ?_).mono ?_); exact hH.out.drew; omega; rintro e w1 ⟨rfl, hH1, -⟩; replace hH1 := Lib.hid hH1)
            | (go_at_call 118; (with_reducible refine (digB (w := w) (na := na) (pa := pa) (la := la) (ca := ca) (da := da) (db := db) ?_ j ?_).mono ?_); exact hH1.out; omega; rintro e w2 ⟨rfl, hH2, -⟩; replace hH2 := Lib.hid hH2))
        clear hc
        by_cases hgt : dg db j < dg da j
        · have hfin : cmp3 (val da) (val db) = 1 := by
            have h1 := dv_first fa.out fb.out (show j < M from hk) (fun i a b => heq.out i a b) hgt
            rw [ea.out, eb.out]
            unfold cmp3
            rw [if_pos h1]
          replace hfin := Lib.hid hfin
          go_wp2_with fail
          go_ret
          exact ⟨by rw [hfin.out]; rfl, hH2.out.bel⟩
        · go_upto_region 6 with (fail)
          go_region_held3 (fun w' => w'.cell? ⟨w.heap.size, 0, none⟩ = some (.bool na) ∧ w'.cell? ⟨w.heap.size, 1, none⟩ = some (.slice pa la ca) ∧ w'.cell? ⟨w.heap.size + 1, 0, none⟩ = some (.bool nb) ∧ w'.cell? ⟨w.heap.size + 1, 1, none⟩ = some (.slice pb lb cb))
            (first | exact hH2.out.two | exact hH3.out.two | exact hH4.out.two)
            (first
              | (go_at_call 118; (with_reducible refine (digA (w := w) (nb := nb) (pb := pb) (lb := lb) (cb := cb) (db := db) (da := da) ?_ j ?_).mono ?_); exact hH2.out.drew; omega; rintro e w3 ⟨rfl, hH3, -⟩; replace hH3 := Lib.hid hH3)
              | (go_at_call 118; (with_reducible refine (digB (w := w) (na := na) (pa := pa) (la := la) (ca := ca) (da := da) (db := db) ?_ j ?_).mono ?_); exact hH3.out; omega; rintro e w4 ⟨rfl, hH4, -⟩; replace hH4 := Lib.hid hH4))
          by_cases hlt : dg da j < dg db j
          · have hfin : cmp3 (val da) (val db) = -1 := by
              have h1 := dv_first fb.out fa.out (show j < M from hk) (fun i a b => (heq.out i a b).symm) hlt
              rw [ea.out, eb.out]
              unfold cmp3
              rw [if_neg (by omega), if_pos h1]
            replace hfin := Lib.hid hfin
            go_wp2_with fail
            go_ret
            exact ⟨by rw [hfin.out]; rfl, hH4.out.bel⟩
          · have he : dg da j = dg db j := by omega
            replace he := Lib.hid he
            go_wp2_with fail
            refine ⟨⟨j, by omega, rfl, fun i h1 h2 => ?_, hH4.out⟩, by simp [intOf]⟩
            by_cases hij : i = j
            · rw [hij]; exact he.out
            · exact heq.out i (by omega) h2
end Go.Proofs.YtljclgphgojphaaGreat
