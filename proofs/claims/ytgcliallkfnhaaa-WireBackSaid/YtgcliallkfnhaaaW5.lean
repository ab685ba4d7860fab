/- The contract of the reference's Take. -/
import Derived.Test.YtgcliallkfnhaaaW4
import Derived.BigRegion
import Derived.Laws.ResultCell
import Derived.Laws.Tables
import Derived.Laws.CopyOwn
namespace Go.Proofs.Ytgcliallkfnhaaa
open Go.RowKit
set_option linter.unusedVariables false

theorem wrap_toI (n : Nat) (h : n < 18446744073709551616) : IntKind.i64.wrap (n : Int) = toI n := by
  unfold toI IntKind.wrap
  simp [IntKind.bits, IntKind.signed]
  split <;> omega
/-- no command -/
def noCmd : Cmd := ⟨0, 0, 0, 0, 0, 0, 0, 0⟩
/-- the command, or none, with the error -/
def takeV (o : Option Cmd) : Value := match o with | some c => .tuple #[.agg c.arr, .int .i64 0] | none => .tuple #[.agg noCmd.arr, .int .i64 2]
theorem take_none {s : List UInt8} (h : ¬ (s ≠ [] ∧ s.length = pos (told s).Kind 7 ∧ mayC (told s) = true)) : takeC s = none := if_neg h
/-- the numbers of bytes, as far as they have been taken -/
def uRow (f : Nat → Nat) : Array Value := #[.int .u64 (f 0 : Nat), .int .u64 (f 1 : Nat), .int .u64 (f 2 : Nat), .int .u64 (f 3 : Nat), .int .u64 (f 4 : Nat), .int .u64 (f 5 : Nat), .int .u64 (f 6 : Nat)]
def upTo (κ : Int) (s : List UInt8) (k : Nat) : Nat → Nat := fun j => if j < k then valU κ s j else 0
theorem head_get (s : ByteArray) (h : 0 < s.size) : (bl s).headD 0 = s[0] := by
  have h2 := bl_get s 0 h
  cases hb : bl s with
  | nil => rw [hb] at h2; cases h2
  | cons x t => rw [hb] at h2; simp at h2; rw [← h2]; rfl
theorem told_kind_get (s : ByteArray) (h : 0 < s.size) : (told (bl s)).Kind = ((s[0].toNat : Nat) : Int) := by rw [told_kind, head_get s h]
theorem not_empty (s : ByteArray) (h : 0 < s.size) : s.toList.isEmpty = false := by
  rw [ByteArray.toList_eq]
  have : s.data.toList.length = s.size := bl_length s
  cases hl : s.data.toList with
  | nil => rw [hl] at this; simp at this; omega
  | cons x t => rfl
theorem seven_zero : madeCells (Value.int .u64 0).cells 7 = uRow fun _ => 0 := by
  apply Array.ext
  · simp [size_madeCells, uRow, Value.cells]
  · intro i h1 h2
    have : i < 7 := h2
    obtain rfl | rfl | rfl | rfl | rfl | rfl | rfl : i = 0 ∨ i = 1 ∨ i = 2 ∨ i = 3 ∨ i = 4 ∨ i = 5 ∨ i = 6 := by omega
    all_goals simp [madeCells, uRow, Value.cells, Nat.mod_one]
theorem Try.info58 : (Try.prog.info? 58).map (fun i => (i.zero, i.size, i.bytes)) = some (some (.int .u64 0), 1, 8) := by kernel_rfl
theorem make_seven (w : World) : (Instr.makeSlice 69 (.int .i64 7) (.int .i64 7)).run Try.prog w = .ok (.slice (some ⟨w.heap.size, 0, none⟩) 7 7) (w.alloc (.cells (uRow fun _ => 0) 58)) := by
  obtain ⟨i0, hi, hz0, hz1, hz2⟩ := info_parts Try.info58
  have hr := run_make (P := Try.prog) w 69 58 i0 (.int .u64 0) Try.underlying69 hi hz0 .i64 .i64 7 7 (by omega) (by omega) (by rw [hz2]; omega) (by omega)
  have e : ((7 : Int)).toNat = 7 := rfl
  simp only [e, hz1, Nat.mul_one] at hr
  rw [hr, seven_zero]
theorem results_take (tmps : Array Value) (w : World) (g : Nat) (cs : Array Value) (fr : Nat × Nat) (hp : tmps.getD 2 undef = .pointer (some ⟨g, 0, none⟩)) (hg : w.heap[g]? = some (.cells cs 29 fr)) (hs : (Try.prog.info? 29).map (·.size) = some cs.size) :
    (results Try.f12 tmps).run Try.prog w = .ok (.tuple #[.agg cs, tmps.getD 3 undef]) w := by
  rw [results_cell_tmp rfl, hp]
  simp [asAddr, run_loadVar_row w g 29 29 cs fr _ hg Try.underlying29 rfl hs]
theorem upTo_free {κ : Int} {l : List UInt8} {k : Nat} (h : hasN κ k = false) : upTo κ l (k + 1) = upTo κ l k := by
  funext j
  unfold upTo
  by_cases h1 : j < k
  · rw [if_pos h1, if_pos (by omega)]
  · rw [if_neg h1]
    by_cases h2 : j < k + 1
    · obtain rfl : j = k := by omega
      rw [if_pos h2]
      unfold valU
      rw [h]
      rfl
    · rw [if_neg h2]
theorem urow_lt {w : World} {g : Nat} {f : Nat → Nat} (h : w.heap[g]? = some (.cells (uRow f) 58 (0, 0))) : g < w.heap.size := (Array.getElem?_eq_some_iff.1 h).1

set_option maxHeartbeats 4000000 in
set_option maxRecDepth 100000 in
theorem takeCR_any (s : ByteArray) (w : World) (hs : s.size ≤ 1000000) :
    Calls Try.prog 12 #[.string s] w fun e w' => e = .returned (takeV (takeC (bl s))) ∧ Below w.heap.size w w' := by
  have hB0 : Below w.heap.size w (w.alloc (.cells noCmd.arr 29)) := (Below.refl _ _).alloc (Nat.le_refl _) _
  have hbx : (w.alloc (.cells noCmd.arr 29)).heap[w.heap.size]? = some (.cells noCmd.arr 29 (0, 0)) := heap_alloc_new w _
  have hbl := bl_length s
  unfold noCmd Cmd.arr at hB0 hbx
  simp only at hB0 hbx
  by_cases h0 : s.size = 0
  · have hn : takeC (bl s) = none := take_none (fun h => h.1 (List.eq_nil_of_length_eq_zero (by omega)))
    rw [hn]
    obtain rfl : s = ⟨#[]⟩ := by
      have : bl s = [] := List.eq_nil_of_length_eq_zero (by omega)
      cases s with | mk d => simp [bl] at this; rw [this]
    replace hB0 := Lib.hid hB0
    replace hbx := Lib.hid hbx
    go_enter Try.func12, Try.ntmps12
    go_wp2_with fail
    (try simp only [Exit.inBlock, Exit.then])
    refine bodyPost_ret (results_take _ _ _ _ _ rfl hbx.out (by kernel_rfl)) rfl ?_
    exact ⟨rfl, hB0.out⟩
  have hpos : 0 < s.size := by omega
  have hposz : (0 : Int) < (s.size : Int) := by omega
  have htk := told_kind_get s hpos
  have hse := not_empty s hpos
  have hse2 : (s.toList == []) = false := by cases h : s.toList with | nil => rw [h] at hse; cases hse | cons x t => rfl
  have cU := usesR_any
  have hdig : ∀ (v : World) (a b : Nat), a + b ≤ s.size → b ≤ 8 → Calls Try.prog 28 #[.string s, .int .i64 (a : Int), .int .i64 (b : Int)] v fun e w' => e = .returned (.int .u64 ((vls (((bl s).drop a).take b) : Nat) : Int)) ∧ v = w' := fun v a b h1 h2 => numR_any s a b v h2 h1 hs
  obtain ⟨κ, hκ⟩ : ∃ κ : Int, ((s[0].toNat : Nat) : Int) = κ := ⟨_, rfl⟩
  have hkb := s[0].toNat_lt
  have hkw : IntKind.i64.wrap κ = κ := by rw [IntKind.wrap_i64] <;> omega
  rw [hκ] at htk
  generalize hv : w.alloc (.cells #[.int .i64 0, .int .i64 0, .int .i64 0, .int .i64 0, .int .i64 0, .int .i64 0, .int .i64 0, .int .i64 0] 29) = v at *
  generalize hB : w.heap.size = B at *
  have hvs : v.heap.size = B + 1 := by rw [← hv, ← hB]; simp
  have cUk := cU κ
  unfold sv at cUk
  replace hv := Lib.hid hv
  replace hB := Lib.hid hB
  replace hB0 := Lib.hid hB0
  replace hbx := Lib.hid hbx
  replace cU := Lib.hid cU
  replace cUk := Lib.hid cUk
  replace hdig := Lib.hid hdig
  replace htk := Lib.hid htk
  replace hvs := Lib.hid hvs
  have hmk := make_seven
  replace hmk := Lib.hid hmk
  go_enter Try.func12, Try.ntmps12
  go_upto_region 1 with (fail)
  rw [hB.out]
  change Code.wp _ _ _ _ (w.alloc (.cells #[.int .i64 0, .int .i64 0, .int .i64 0, .int .i64 0, .int .i64 0, .int .i64 0, .int .i64 0, .int .i64 0] 29))
  rw [hv.out]
  by_cases hk : known κ = true
  · have hU := uses_text hk
    have hUe : (⟨(usesL κ).toArray⟩ : ByteArray).toList.isEmpty = false := by rw [hU.list]; have := uses_length hk; cases h : usesL κ; rw [h] at this; cases this; rfl
    have hUe2 : ((⟨(usesL κ).toArray⟩ : ByteArray).toList == []) = false := by rw [hU.list]; have := uses_length hk; cases h : usesL κ; rw [h] at this; cases this; rfl
    generalize hkU : (⟨(usesL κ).toArray⟩ : ByteArray) = U at *
    have hUs := hU.size
    replace hU := Lib.hid hU
    replace hkU := Lib.hid hkU
    go_wp2_with (first | (go_at_call 21; (refine (cUk.out _).mono ?_); rintro e w' ⟨rfl, rfl⟩))
    rw [hmk.out]
    have hr0 := heap_alloc_new v (.cells (uRow fun _ => 0) 58)
    have hb1 : Below v.heap.size v (v.alloc (.cells (uRow fun _ => 0) 58)) := (Below.refl _ _).alloc (Nat.le_refl _) _
    have hvs' := hvs.out
    generalize hvr : v.alloc (.cells (uRow fun _ => 0) 58) = v1 at *
    generalize hgr : v.heap.size = g at *
    have hN0 : Hid (pos κ 0 ≤ s.size ∧ v1.heap[g]? = some (.cells (uRow (upTo κ (bl s) 0)) 58 (0, 0)) ∧ Below g v v1) := Lib.hid ⟨hpos, hr0, hb1⟩
    replace hvr := Lib.hid hvr
    replace hgr := Lib.hid hgr
    have hBg : B < g := by omega
    replace hvs' := Lib.hid hvs'
    clear hr0 hb1
    go_wp2_with fail
    go_loopw [6, 7] (fun at_ i wr => ∃ k : Nat, k ≤ 7 ∧ i = .int .i64 k ∧ at_ = .int .i64 (pos κ k : Nat) ∧ Hid (pos κ k ≤ s.size ∧ wr.heap[g]? = some (.cells (uRow (upTo κ (bl s) k)) 58 (0, 0)) ∧ Below g v wr)) (fun _ i _ => 7 - (intOf i).toNat)
    case atStart => exact ⟨0, by omega, rfl, rfl, hN0⟩
    case round =>
      obtain ⟨k, hk7, rfl, rfl, hR⟩ := hrel
      obtain ⟨hp, hrow, hbv⟩ := hR.out
      have hbX : wr.heap[B]? = some (.cells #[.int .i64 0, .int .i64 0, .int .i64 0, .int .i64 0, .int .i64 0, .int .i64 0, .int .i64 0, .int .i64 0] 29 (0, 0)) := (hbv.block B (by omega)).trans hbx.out
      have hBX : Below B w wr := hB0.out.trans (hbv.mono (by omega))
      have hpl := pos_le κ hk7
      replace hbX := Lib.hid hbX
      replace hBX := Lib.hid hBX
      by_cases h7 : k = 7
      · subst h7
        have c0 : wr.cell? ⟨g, 0, none⟩ = some (.int .u64 (valU κ (bl s) 0 : Nat)) := obj_cell hrow rfl
        have c1 : wr.cell? ⟨g, 1, none⟩ = some (.int .u64 (valU κ (bl s) 1 : Nat)) := obj_cell hrow rfl
        have c2 : wr.cell? ⟨g, 2, none⟩ = some (.int .u64 (valU κ (bl s) 2 : Nat)) := obj_cell hrow rfl
        have c3 : wr.cell? ⟨g, 3, none⟩ = some (.int .u64 (valU κ (bl s) 3 : Nat)) := obj_cell hrow rfl
        have c4 : wr.cell? ⟨g, 4, none⟩ = some (.int .u64 (valU κ (bl s) 4 : Nat)) := obj_cell hrow rfl
        have c5 : wr.cell? ⟨g, 5, none⟩ = some (.int .u64 (valU κ (bl s) 5 : Nat)) := obj_cell hrow rfl
        have c6 : wr.cell? ⟨g, 6, none⟩ = some (.int .u64 (valU κ (bl s) 6 : Nat)) := obj_cell hrow rfl
        have x0 : IntKind.i64.wrap ((valU κ (bl s) 0 : Nat) : Int) = (told (bl s)).Member := by rw [wrap_toI _ (valU_lt _ _ _), ← htk.out]; rfl
        have x1 : IntKind.i64.wrap ((valU κ (bl s) 1 : Nat) : Int) = (told (bl s)).Id := by rw [wrap_toI _ (valU_lt _ _ _), ← htk.out]; rfl
        have x2 : IntKind.i64.wrap ((valU κ (bl s) 2 : Nat) : Int) = (told (bl s)).Other := by rw [wrap_toI _ (valU_lt _ _ _), ← htk.out]; rfl
        have x3 : IntKind.i64.wrap ((valU κ (bl s) 3 : Nat) : Int) = (told (bl s)).Cur := by rw [wrap_toI _ (valU_lt _ _ _), ← htk.out]; rfl
        have x4 : IntKind.i64.wrap ((valU κ (bl s) 4 : Nat) : Int) = (told (bl s)).Cur2 := by rw [wrap_toI _ (valU_lt _ _ _), ← htk.out]; rfl
        have x5 : IntKind.i64.wrap ((valU κ (bl s) 5 : Nat) : Int) = (told (bl s)).Amount := by rw [wrap_toI _ (valU_lt _ _ _), ← htk.out]; rfl
        have x6 : IntKind.i64.wrap ((valU κ (bl s) 6 : Nat) : Int) = (told (bl s)).Amount2 := by rw [wrap_toI _ (valU_lt _ _ _), ← htk.out]; rfl
        have cM := mayCR_any (told (bl s))
        unfold Cmd.arr at cM
        rw [htk.out] at cM
        replace cM := Lib.hid cM
        generalize valU κ (bl s) 0 = y0 at *
        generalize valU κ (bl s) 1 = y1 at *
        generalize valU κ (bl s) 2 = y2 at *
        generalize valU κ (bl s) 3 = y3 at *
        generalize valU κ (bl s) 4 = y4 at *
        generalize valU κ (bl s) 5 = y5 at *
        generalize valU κ (bl s) 6 = y6 at *
        replace hN0 := Lib.hid hN0
        have hP7 : (pos κ 7 : Nat) ≤ 1000000 := by omega
        have hgw := urow_lt hrow
        have hgne : ¬ g = wr.heap.size := by omega
        have hgne2 : (g == wr.heap.size) = false := by simpa using hgne
        replace hrow := Lib.hid hrow
        replace hbv := Lib.hid hbv
        replace hR := Lib.hid hR
        have hbw : B < wr.heap.size := (Array.getElem?_eq_some_iff.1 hbX.out).1
        have hbD : Below wr.heap.size wr (wr.alloc (.cells #[.int .i64 κ, .int .i64 (told (bl s)).Member, .int .i64 (told (bl s)).Id, .int .i64 (told (bl s)).Other, .int .i64 (told (bl s)).Cur, .int .i64 (told (bl s)).Cur2, .int .i64 (told (bl s)).Amount, .int .i64 (told (bl s)).Amount2] 29)).drew := ((Below.refl _ _).alloc (Nat.le_refl _) _).drew
        have hbo : (wr.alloc (.cells #[.int .i64 κ, .int .i64 (told (bl s)).Member, .int .i64 (told (bl s)).Id, .int .i64 (told (bl s)).Other, .int .i64 (told (bl s)).Cur, .int .i64 (told (bl s)).Cur2, .int .i64 (told (bl s)).Amount, .int .i64 (told (bl s)).Amount2] 29)).drew.heap[wr.heap.size]? = some (.cells #[.int .i64 κ, .int .i64 (told (bl s)).Member, .int .i64 (told (bl s)).Id, .int .i64 (told (bl s)).Other, .int .i64 (told (bl s)).Cur, .int .i64 (told (bl s)).Cur2, .int .i64 (told (bl s)).Amount, .int .i64 (told (bl s)).Amount2] 29 (0, 0)) := heap_alloc_new wr _
        replace hbD := Lib.hid hbD
        replace hbo := Lib.hid hbo
        go_upto_region 15 with (fail)
        have hka : ∀ o : Obj, (wr.alloc o).cell? ⟨g, 0, none⟩ = some (.int .u64 (y0 : Nat)) ∧ (wr.alloc o).cell? ⟨g, 1, none⟩ = some (.int .u64 (y1 : Nat)) ∧ (wr.alloc o).cell? ⟨g, 2, none⟩ = some (.int .u64 (y2 : Nat)) ∧ (wr.alloc o).cell? ⟨g, 3, none⟩ = some (.int .u64 (y3 : Nat)) ∧ (wr.alloc o).cell? ⟨g, 4, none⟩ = some (.int .u64 (y4 : Nat)) ∧ (wr.alloc o).cell? ⟨g, 5, none⟩ = some (.int .u64 (y5 : Nat)) ∧ (wr.alloc o).cell? ⟨g, 6, none⟩ = some (.int .u64 (y6 : Nat)) := fun o => by
          have hb : Below wr.heap.size wr (wr.alloc o) := (Below.refl _ _).alloc (Nat.le_refl _) _
          exact ⟨(hb.cell (p := ⟨g, 0, none⟩) hgw).trans c0, (hb.cell (p := ⟨g, 1, none⟩) hgw).trans c1, (hb.cell (p := ⟨g, 2, none⟩) hgw).trans c2, (hb.cell (p := ⟨g, 3, none⟩) hgw).trans c3, (hb.cell (p := ⟨g, 4, none⟩) hgw).trans c4, (hb.cell (p := ⟨g, 5, none⟩) hgw).trans c5, (hb.cell (p := ⟨g, 6, none⟩) hgw).trans c6⟩
        have hkb : ∀ o : Obj, (wr.drew.alloc o).cell? ⟨g, 0, none⟩ = some (.int .u64 (y0 : Nat)) ∧ (wr.drew.alloc o).cell? ⟨g, 1, none⟩ = some (.int .u64 (y1 : Nat)) ∧ (wr.drew.alloc o).cell? ⟨g, 2, none⟩ = some (.int .u64 (y2 : Nat)) ∧ (wr.drew.alloc o).cell? ⟨g, 3, none⟩ = some (.int .u64 (y3 : Nat)) ∧ (wr.drew.alloc o).cell? ⟨g, 4, none⟩ = some (.int .u64 (y4 : Nat)) ∧ (wr.drew.alloc o).cell? ⟨g, 5, none⟩ = some (.int .u64 (y5 : Nat)) ∧ (wr.drew.alloc o).cell? ⟨g, 6, none⟩ = some (.int .u64 (y6 : Nat)) := hka
        go_region_held3 (fun w' => (w').cell? ⟨g, 0, none⟩ = some (.int .u64 (y0 : Nat)) ∧ (w').cell? ⟨g, 1, none⟩ = some (.int .u64 (y1 : Nat)) ∧ (w').cell? ⟨g, 2, none⟩ = some (.int .u64 (y2 : Nat)) ∧ (w').cell? ⟨g, 3, none⟩ = some (.int .u64 (y3 : Nat)) ∧ (w').cell? ⟨g, 4, none⟩ = some (.int .u64 (y4 : Nat)) ∧ (w').cell? ⟨g, 5, none⟩ = some (.int .u64 (y5 : Nat)) ∧ (w').cell? ⟨g, 6, none⟩ = some (.int .u64 (y6 : Nat))) (first | exact ⟨c0, c1, c2, c3, c4, c5, c6⟩ | exact hHeld | exact hka _ | exact hkb _) (first | fail)
        all_goals
          clear hka hkb
          try clear hHeld
          generalize hP : pos κ 7 = P7 at *
          generalize hw8 : (wr.alloc (.cells #[.int .i64 κ, .int .i64 (told (bl s)).Member, .int .i64 (told (bl s)).Id, .int .i64 (told (bl s)).Other, .int .i64 (told (bl s)).Cur, .int .i64 (told (bl s)).Cur2, .int .i64 (told (bl s)).Amount, .int .i64 (told (bl s)).Amount2] 29)).drew = w8 at *
          replace hP := Lib.hid hP
          replace hw8 := Lib.hid hw8
          clear c0 c1 c2 c3 c4 c5 c6 x0 x1 x2 x3 x4 x5 x6
          have f0 : w8.cell? ⟨wr.heap.size, 0, none⟩ = some (.int .i64 κ) := obj_cell hbo.out rfl
          have f1 : w8.cell? ⟨wr.heap.size, 1, none⟩ = some (.int .i64 (told (bl s)).Member) := obj_cell hbo.out rfl
          have f2 : w8.cell? ⟨wr.heap.size, 2, none⟩ = some (.int .i64 (told (bl s)).Id) := obj_cell hbo.out rfl
          have f3 : w8.cell? ⟨wr.heap.size, 3, none⟩ = some (.int .i64 (told (bl s)).Other) := obj_cell hbo.out rfl
          have f4 : w8.cell? ⟨wr.heap.size, 4, none⟩ = some (.int .i64 (told (bl s)).Cur) := obj_cell hbo.out rfl
          have f5 : w8.cell? ⟨wr.heap.size, 5, none⟩ = some (.int .i64 (told (bl s)).Cur2) := obj_cell hbo.out rfl
          have f6 : w8.cell? ⟨wr.heap.size, 6, none⟩ = some (.int .i64 (told (bl s)).Amount) := obj_cell hbo.out rfl
          have f7 : w8.cell? ⟨wr.heap.size, 7, none⟩ = some (.int .i64 (told (bl s)).Amount2) := obj_cell hbo.out rfl
          by_cases hL : s.size = P7
          · have hLz : (((P7 : Nat) : Int) == (s.size : Int)) = true := by rw [hL]; simp
            have hLz2 : (((P7 : Nat) : Int) != (s.size : Int)) = false := by rw [hL]; simp
            have hLz3 : (P7 == s.size) = true := by rw [hL]; simp
            replace hL := Lib.hid hL
            go_wp2_with fail
            with_reducible refine (cM.out _).mono ?_
            rintro e w9 ⟨rfl, hb9'⟩
            have hb9 : Hid (Below wr.heap.size wr w9) := Lib.hid (hbD.out.trans (hb9'.mono hbD.out.size))
            have hbo9 := (hb9'.block _ (obj_lt hbo.out)).trans hbo.out
            have k0 : w9.cell? ⟨wr.heap.size, 0, none⟩ = some (.int .i64 κ) := obj_cell hbo9 rfl
            have k1 : w9.cell? ⟨wr.heap.size, 1, none⟩ = some (.int .i64 (told (bl s)).Member) := obj_cell hbo9 rfl
            have k2 : w9.cell? ⟨wr.heap.size, 2, none⟩ = some (.int .i64 (told (bl s)).Id) := obj_cell hbo9 rfl
            have k3 : w9.cell? ⟨wr.heap.size, 3, none⟩ = some (.int .i64 (told (bl s)).Other) := obj_cell hbo9 rfl
            have k4 : w9.cell? ⟨wr.heap.size, 4, none⟩ = some (.int .i64 (told (bl s)).Cur) := obj_cell hbo9 rfl
            have k5 : w9.cell? ⟨wr.heap.size, 5, none⟩ = some (.int .i64 (told (bl s)).Cur2) := obj_cell hbo9 rfl
            have k6 : w9.cell? ⟨wr.heap.size, 6, none⟩ = some (.int .i64 (told (bl s)).Amount) := obj_cell hbo9 rfl
            have k7 : w9.cell? ⟨wr.heap.size, 7, none⟩ = some (.int .i64 (told (bl s)).Amount2) := obj_cell hbo9 rfl
            have hbX2 : Hid (w9.heap[B]? = some (.cells #[.int .i64 0, .int .i64 0, .int .i64 0, .int .i64 0, .int .i64 0, .int .i64 0, .int .i64 0, .int .i64 0] 29 (0, 0))) := Lib.hid ((hb9.out.block B hbw).trans hbX.out)
            have hBX2 : Hid (Below B w w9) := Lib.hid (hBX.out.trans (hb9.out.mono (Nat.le_of_lt hbw)))
            replace hbo9 := Lib.hid hbo9
            replace hb9' := Lib.hid hb9'
            by_cases hm : mayC (told (bl s)) = true
            · rw [hm]
              have hn : takeC (bl s) = some (told (bl s)) := by
                unfold takeC
                rw [if_pos ⟨fun e => by rw [e] at hbl; simp at hbl; omega, by rw [hbl, htk.out, hP.out]; exact hL.out, hm⟩]
              replace hn := Lib.hid hn
              replace hm := Lib.hid hm
              go_wp2_with (first | (refine wpList_store_row rfl 29 _ _ rfl B _ rfl rfl 29 _ hbX2.out (by kernel_rfl) rfl (by simp [Value.oneCell']) ?_))
              (try simp only [Exit.inBlock, Exit.then])
              refine bodyPost_ret (results_take _ _ _ _ _ rfl (setRow_heap _ _ _ _ _ _ hbX2.out) (by kernel_rfl)) rfl ?_
              have hka2 : (told (bl s)).arr = #[.int .i64 κ, .int .i64 (told (bl s)).Member, .int .i64 (told (bl s)).Id, .int .i64 (told (bl s)).Other, .int .i64 (told (bl s)).Cur, .int .i64 (told (bl s)).Cur2, .int .i64 (told (bl s)).Amount, .int .i64 (told (bl s)).Amount2] := by unfold Cmd.arr; rw [htk.out]
              exact ⟨by rw [hn.out]; show _ = Ending.returned (.tuple #[.agg (told (bl s)).arr, .int .i64 0]); rw [hka2]; rfl, below_setRow hBX2.out (Nat.le_refl _) _⟩
            · rw [show mayC (told (bl s)) = false by simpa using hm]
              have hn : takeC (bl s) = none := take_none fun h => hm h.2.2
              replace hn := Lib.hid hn
              replace hm := Lib.hid hm
              go_wp2_with (first | (refine wpList_store_row rfl 29 _ _ rfl B _ rfl rfl 29 _ hbX2.out (by kernel_rfl) rfl (by simp [Value.oneCell']) ?_))
              (try simp only [Exit.inBlock, Exit.then])
              refine bodyPost_ret (results_take _ _ _ _ _ rfl (setRow_heap _ _ _ _ _ _ hbX2.out) (by kernel_rfl)) rfl ?_
              exact ⟨by rw [hn.out]; rfl, below_setRow hBX2.out (Nat.le_refl _) _⟩
          · have hLz : (((P7 : Nat) : Int) == (s.size : Int)) = false := by simp; omega
            have hLz2 : (((P7 : Nat) : Int) != (s.size : Int)) = true := by simp; omega
            have hLz3 : (P7 == s.size) = false := by simp; omega
            have hn : takeC (bl s) = none := take_none fun h => hL (by have := h.2.1; rw [htk.out, hbl, hP.out] at this; exact this)
            replace hn := Lib.hid hn
            have hbX2 : Hid (w8.heap[B]? = some (.cells #[.int .i64 0, .int .i64 0, .int .i64 0, .int .i64 0, .int .i64 0, .int .i64 0, .int .i64 0, .int .i64 0] 29 (0, 0))) := Lib.hid ((hbD.out.block B hbw).trans hbX.out)
            have hBX2 : Hid (Below B w w8) := Lib.hid (hBX.out.trans (hbD.out.mono (Nat.le_of_lt hbw)))
            go_wp2_with (first | (refine wpList_store_row rfl 29 _ _ rfl B _ rfl rfl 29 _ hbX2.out (by kernel_rfl) rfl (by simp [Value.oneCell']) ?_))
            (try simp only [Exit.inBlock, Exit.then])
            refine bodyPost_ret (results_take _ _ _ _ _ rfl (setRow_heap _ _ _ _ _ _ hbX2.out) (by kernel_rfl)) rfl ?_
            exact ⟨by rw [hn.out]; rfl, below_setRow hBX2.out (Nat.le_refl _) _⟩
      have hcs : k = 0 ∨ k = 1 ∨ k = 2 ∨ k = 3 ∨ k = 4 ∨ k = 5 ∨ k = 6 := by omega
      replace hbv := Lib.hid hbv
      clear hN0
      rcases hcs with rfl | rfl | rfl | rfl | rfl | rfl | rfl
      · have cg : wr.cell? ⟨g, 0, none⟩ = some (.int .u64 0) := obj_cell hrow rfl
        have zf : wr.frozen? ⟨g, 0, none⟩ = false := obj_free hrow 0
        cases hu : hasN κ 0 with
        | false =>
          have hb := hU.out.free 0 (by omega) hu
          have hnx : pos κ 1 = pos κ 0 := by show pos κ 0 + (if hasN κ 0 then wid 0 else 0) = _; rw [hu]; rfl
          have hN2 : Hid (pos κ 1 ≤ s.size ∧ wr.heap[g]? = some (.cells (uRow (upTo κ (bl s) 1)) 58 (0, 0)) ∧ Below g v wr) := Lib.hid ⟨by omega, by rw [show (1 : Nat) = 0 + 1 from rfl, upTo_free hu]; exact hrow, hbv.out⟩
          replace hrow := Lib.hid hrow
          replace hnx := Lib.hid hnx
          go_wp2_with fail
          go_roundw
          case rel => exact ⟨1, by omega, by go_num, by rw [hnx.out], hN2⟩
          case measure => simp [intOf]
        | true =>
          have hb := hU.out.used 0 (by omega) hu
          have hby : ((⟨#[49, 52, 49, 49, 49, 56, 56]⟩ : ByteArray)[0]'(by decide)).toNat = 49 := rfl
          have hnx : pos κ 1 = pos κ 0 + 1 := by show pos κ 0 + (if hasN κ 0 then wid 0 else 0) = _; rw [hu]; rfl
          have hwW : IntKind.i64.wrap (IntKind.i64.wrap 49 - 48) = 1 := by decide
          have hzz := IntWalk.i64_in (((pos κ 0 : Nat) : Int) + 1) (by omega)
          by_cases hfit : pos κ 0 + 1 ≤ s.size
          · have hfz : ¬ (s.size : Int) < ((pos κ 0 : Nat) : Int) + 1 := by omega
            have hdk := fun v => hdig.out v (pos κ 0) 1 hfit (by omega)
            have hval : vls (((bl s).drop (pos κ 0)).take 1) = valU κ (bl s) 0 := by unfold valU; rw [hu]; rfl
            rw [hval] at hdk
            have hrow2 := obj_set hrow 0 (.int .u64 (valU κ (bl s) 0 : Nat))
            have hbv2 := hbv.out.setCell (p := ⟨g, 0, none⟩) (Nat.le_refl _) (.int .u64 (valU κ (bl s) 0 : Nat))
            have hN2 : Hid (pos κ 1 ≤ s.size ∧ (wr.setCell ⟨g, 0, none⟩ (.int .u64 (valU κ (bl s) 0 : Nat))).heap[g]? = some (.cells (uRow (upTo κ (bl s) 1)) 58 (0, 0)) ∧ Below g v (wr.setCell ⟨g, 0, none⟩ (.int .u64 (valU κ (bl s) 0 : Nat)))) := Lib.hid ⟨by omega, hrow2, hbv2⟩
            clear hrow2 hbv2
            replace hrow := Lib.hid hrow
            replace hval := Lib.hid hval
            replace hdk := Lib.hid hdk
            generalize hvu : valU κ (bl s) 0 = vu at *
            replace hvu := Lib.hid hvu
            replace hnx := Lib.hid hnx
            generalize hpk : pos κ 0 = pk at *
            replace hpk := Lib.hid hpk
            go_wp2_with (first | (go_at_call 28; (refine (hdk.out _).mono ?_); rintro e w' ⟨rfl, rfl⟩))
            go_roundw
            case rel => exact ⟨1, by omega, by go_num, by rw [hnx.out]; go_num, hN2⟩
            case measure => simp [intOf]
          · have hfz : (s.size : Int) < ((pos κ 0 : Nat) : Int) + 1 := by omega
            have hn : takeC (bl s) = none := take_none (fun h => by have h2 := h.2.1; rw [htk.out, hbl] at h2; have := pos_le κ (show 1 ≤ 7 by omega); omega)
            replace hn := Lib.hid hn
            replace hrow := Lib.hid hrow
            replace hnx := Lib.hid hnx
            generalize pos κ 0 = pk at *
            go_wp2_with (first | (refine wpList_store_row rfl 29 _ _ rfl B _ rfl rfl 29 _ hbX.out (by kernel_rfl) rfl (by simp [Value.oneCell']) ?_))

            (try simp only [Exit.inBlock, Exit.then])
            refine bodyPost_ret (results_take _ _ _ _ _ rfl (setRow_heap _ _ _ _ _ _ hbX.out) (by kernel_rfl)) rfl ?_
            exact ⟨by rw [hn.out]; rfl, below_setRow hBX.out (Nat.le_refl _) _⟩
      · have cg : wr.cell? ⟨g, 1, none⟩ = some (.int .u64 0) := obj_cell hrow rfl
        have zf : wr.frozen? ⟨g, 1, none⟩ = false := obj_free hrow 1
        cases hu : hasN κ 1 with
        | false =>
          have hb := hU.out.free 1 (by omega) hu
          have hnx : pos κ 2 = pos κ 1 := by show pos κ 1 + (if hasN κ 1 then wid 1 else 0) = _; rw [hu]; rfl
          have hN2 : Hid (pos κ 2 ≤ s.size ∧ wr.heap[g]? = some (.cells (uRow (upTo κ (bl s) 2)) 58 (0, 0)) ∧ Below g v wr) := Lib.hid ⟨by omega, by rw [show (2 : Nat) = 1 + 1 from rfl, upTo_free hu]; exact hrow, hbv.out⟩
          replace hrow := Lib.hid hrow
          replace hnx := Lib.hid hnx
          go_wp2_with fail
          go_roundw
          case rel => exact ⟨2, by omega, by go_num, by rw [hnx.out], hN2⟩
          case measure => simp [intOf]
        | true =>
          have hb := hU.out.used 1 (by omega) hu
          have hby : ((⟨#[49, 52, 49, 49, 49, 56, 56]⟩ : ByteArray)[1]'(by decide)).toNat = 52 := rfl
          have hnx : pos κ 2 = pos κ 1 + 4 := by show pos κ 1 + (if hasN κ 1 then wid 1 else 0) = _; rw [hu]; rfl
          have hwW : IntKind.i64.wrap (IntKind.i64.wrap 52 - 48) = 4 := by decide
          have hzz := IntWalk.i64_in (((pos κ 1 : Nat) : Int) + 4) (by omega)
          by_cases hfit : pos κ 1 + 4 ≤ s.size
          · have hfz : ¬ (s.size : Int) < ((pos κ 1 : Nat) : Int) + 4 := by omega
            have hdk := fun v => hdig.out v (pos κ 1) 4 hfit (by omega)
            have hval : vls (((bl s).drop (pos κ 1)).take 4) = valU κ (bl s) 1 := by unfold valU; rw [hu]; rfl
            rw [hval] at hdk
            have hrow2 := obj_set hrow 1 (.int .u64 (valU κ (bl s) 1 : Nat))
            have hbv2 := hbv.out.setCell (p := ⟨g, 1, none⟩) (Nat.le_refl _) (.int .u64 (valU κ (bl s) 1 : Nat))
            have hN2 : Hid (pos κ 2 ≤ s.size ∧ (wr.setCell ⟨g, 1, none⟩ (.int .u64 (valU κ (bl s) 1 : Nat))).heap[g]? = some (.cells (uRow (upTo κ (bl s) 2)) 58 (0, 0)) ∧ Below g v (wr.setCell ⟨g, 1, none⟩ (.int .u64 (valU κ (bl s) 1 : Nat)))) := Lib.hid ⟨by omega, hrow2, hbv2⟩
            clear hrow2 hbv2
            replace hrow := Lib.hid hrow
            replace hval := Lib.hid hval
            replace hdk := Lib.hid hdk
            generalize hvu : valU κ (bl s) 1 = vu at *
            replace hvu := Lib.hid hvu
            replace hnx := Lib.hid hnx
            generalize hpk : pos κ 1 = pk at *
            replace hpk := Lib.hid hpk
            go_wp2_with (first | (go_at_call 28; (refine (hdk.out _).mono ?_); rintro e w' ⟨rfl, rfl⟩))
            go_roundw
            case rel => exact ⟨2, by omega, by go_num, by rw [hnx.out]; go_num, hN2⟩
            case measure => simp [intOf]
          · have hfz : (s.size : Int) < ((pos κ 1 : Nat) : Int) + 4 := by omega
            have hn : takeC (bl s) = none := take_none (fun h => by have h2 := h.2.1; rw [htk.out, hbl] at h2; have := pos_le κ (show 2 ≤ 7 by omega); omega)
            replace hn := Lib.hid hn
            replace hrow := Lib.hid hrow
            replace hnx := Lib.hid hnx
            generalize pos κ 1 = pk at *
            go_wp2_with (first | (refine wpList_store_row rfl 29 _ _ rfl B _ rfl rfl 29 _ hbX.out (by kernel_rfl) rfl (by simp [Value.oneCell']) ?_))

            (try simp only [Exit.inBlock, Exit.then])
            refine bodyPost_ret (results_take _ _ _ _ _ rfl (setRow_heap _ _ _ _ _ _ hbX.out) (by kernel_rfl)) rfl ?_
            exact ⟨by rw [hn.out]; rfl, below_setRow hBX.out (Nat.le_refl _) _⟩
      · have cg : wr.cell? ⟨g, 2, none⟩ = some (.int .u64 0) := obj_cell hrow rfl
        have zf : wr.frozen? ⟨g, 2, none⟩ = false := obj_free hrow 2
        cases hu : hasN κ 2 with
        | false =>
          have hb := hU.out.free 2 (by omega) hu
          have hnx : pos κ 3 = pos κ 2 := by show pos κ 2 + (if hasN κ 2 then wid 2 else 0) = _; rw [hu]; rfl
          have hN2 : Hid (pos κ 3 ≤ s.size ∧ wr.heap[g]? = some (.cells (uRow (upTo κ (bl s) 3)) 58 (0, 0)) ∧ Below g v wr) := Lib.hid ⟨by omega, by rw [show (3 : Nat) = 2 + 1 from rfl, upTo_free hu]; exact hrow, hbv.out⟩
          replace hrow := Lib.hid hrow
          replace hnx := Lib.hid hnx
          go_wp2_with fail
          go_roundw
          case rel => exact ⟨3, by omega, by go_num, by rw [hnx.out], hN2⟩
          case measure => simp [intOf]
        | true =>
          have hb := hU.out.used 2 (by omega) hu
          have hby : ((⟨#[49, 52, 49, 49, 49, 56, 56]⟩ : ByteArray)[2]'(by decide)).toNat = 49 := rfl
          have hnx : pos κ 3 = pos κ 2 + 1 := by show pos κ 2 + (if hasN κ 2 then wid 2 else 0) = _; rw [hu]; rfl
          have hwW : IntKind.i64.wrap (IntKind.i64.wrap 49 - 48) = 1 := by decide
          have hzz := IntWalk.i64_in (((pos κ 2 : Nat) : Int) + 1) (by omega)
          by_cases hfit : pos κ 2 + 1 ≤ s.size
          · have hfz : ¬ (s.size : Int) < ((pos κ 2 : Nat) : Int) + 1 := by omega
            have hdk := fun v => hdig.out v (pos κ 2) 1 hfit (by omega)
            have hval : vls (((bl s).drop (pos κ 2)).take 1) = valU κ (bl s) 2 := by unfold valU; rw [hu]; rfl
            rw [hval] at hdk
            have hrow2 := obj_set hrow 2 (.int .u64 (valU κ (bl s) 2 : Nat))
            have hbv2 := hbv.out.setCell (p := ⟨g, 2, none⟩) (Nat.le_refl _) (.int .u64 (valU κ (bl s) 2 : Nat))
            have hN2 : Hid (pos κ 3 ≤ s.size ∧ (wr.setCell ⟨g, 2, none⟩ (.int .u64 (valU κ (bl s) 2 : Nat))).heap[g]? = some (.cells (uRow (upTo κ (bl s) 3)) 58 (0, 0)) ∧ Below g v (wr.setCell ⟨g, 2, none⟩ (.int .u64 (valU κ (bl s) 2 : Nat)))) := Lib.hid ⟨by omega, hrow2, hbv2⟩
            clear hrow2 hbv2
            replace hrow := Lib.hid hrow
            replace hval := Lib.hid hval
            replace hdk := Lib.hid hdk
            generalize hvu : valU κ (bl s) 2 = vu at *
            replace hvu := Lib.hid hvu
            replace hnx := Lib.hid hnx
            generalize hpk : pos κ 2 = pk at *
            replace hpk := Lib.hid hpk
            go_wp2_with (first | (go_at_call 28; (refine (hdk.out _).mono ?_); rintro e w' ⟨rfl, rfl⟩))
            go_roundw
            case rel => exact ⟨3, by omega, by go_num, by rw [hnx.out]; go_num, hN2⟩
            case measure => simp [intOf]
          · have hfz : (s.size : Int) < ((pos κ 2 : Nat) : Int) + 1 := by omega
            have hn : takeC (bl s) = none := take_none (fun h => by have h2 := h.2.1; rw [htk.out, hbl] at h2; have := pos_le κ (show 3 ≤ 7 by omega); omega)
            replace hn := Lib.hid hn
            replace hrow := Lib.hid hrow
            replace hnx := Lib.hid hnx
            generalize pos κ 2 = pk at *
            go_wp2_with (first | (refine wpList_store_row rfl 29 _ _ rfl B _ rfl rfl 29 _ hbX.out (by kernel_rfl) rfl (by simp [Value.oneCell']) ?_))

            (try simp only [Exit.inBlock, Exit.then])
            refine bodyPost_ret (results_take _ _ _ _ _ rfl (setRow_heap _ _ _ _ _ _ hbX.out) (by kernel_rfl)) rfl ?_
            exact ⟨by rw [hn.out]; rfl, below_setRow hBX.out (Nat.le_refl _) _⟩
      · have cg : wr.cell? ⟨g, 3, none⟩ = some (.int .u64 0) := obj_cell hrow rfl
        have zf : wr.frozen? ⟨g, 3, none⟩ = false := obj_free hrow 3
        cases hu : hasN κ 3 with
        | false =>
          have hb := hU.out.free 3 (by omega) hu
          have hnx : pos κ 4 = pos κ 3 := by show pos κ 3 + (if hasN κ 3 then wid 3 else 0) = _; rw [hu]; rfl
          have hN2 : Hid (pos κ 4 ≤ s.size ∧ wr.heap[g]? = some (.cells (uRow (upTo κ (bl s) 4)) 58 (0, 0)) ∧ Below g v wr) := Lib.hid ⟨by omega, by rw [show (4 : Nat) = 3 + 1 from rfl, upTo_free hu]; exact hrow, hbv.out⟩
          replace hrow := Lib.hid hrow
          replace hnx := Lib.hid hnx
          go_wp2_with fail
          go_roundw
          case rel => exact ⟨4, by omega, by go_num, by rw [hnx.out], hN2⟩
          case measure => simp [intOf]
        | true =>
          have hb := hU.out.used 3 (by omega) hu
          have hby : ((⟨#[49, 52, 49, 49, 49, 56, 56]⟩ : ByteArray)[3]'(by decide)).toNat = 49 := rfl
          have hnx : pos κ 4 = pos κ 3 + 1 := by show pos κ 3 + (if hasN κ 3 then wid 3 else 0) = _; rw [hu]; rfl
          have hwW : IntKind.i64.wrap (IntKind.i64.wrap 49 - 48) = 1 := by decide
          have hzz := IntWalk.i64_in (((pos κ 3 : Nat) : Int) + 1) (by omega)
          by_cases hfit : pos κ 3 + 1 ≤ s.size
          · have hfz : ¬ (s.size : Int) < ((pos κ 3 : Nat) : Int) + 1 := by omega
            have hdk := fun v => hdig.out v (pos κ 3) 1 hfit (by omega)
            have hval : vls (((bl s).drop (pos κ 3)).take 1) = valU κ (bl s) 3 := by unfold valU; rw [hu]; rfl
            rw [hval] at hdk
            have hrow2 := obj_set hrow 3 (.int .u64 (valU κ (bl s) 3 : Nat))
            have hbv2 := hbv.out.setCell (p := ⟨g, 3, none⟩) (Nat.le_refl _) (.int .u64 (valU κ (bl s) 3 : Nat))
            have hN2 : Hid (pos κ 4 ≤ s.size ∧ (wr.setCell ⟨g, 3, none⟩ (.int .u64 (valU κ (bl s) 3 : Nat))).heap[g]? = some (.cells (uRow (upTo κ (bl s) 4)) 58 (0, 0)) ∧ Below g v (wr.setCell ⟨g, 3, none⟩ (.int .u64 (valU κ (bl s) 3 : Nat)))) := Lib.hid ⟨by omega, hrow2, hbv2⟩
            clear hrow2 hbv2
            replace hrow := Lib.hid hrow
            replace hval := Lib.hid hval
            replace hdk := Lib.hid hdk
            generalize hvu : valU κ (bl s) 3 = vu at *
            replace hvu := Lib.hid hvu
            replace hnx := Lib.hid hnx
            generalize hpk : pos κ 3 = pk at *
            replace hpk := Lib.hid hpk
            go_wp2_with (first | (go_at_call 28; (refine (hdk.out _).mono ?_); rintro e w' ⟨rfl, rfl⟩))
            go_roundw
            case rel => exact ⟨4, by omega, by go_num, by rw [hnx.out]; go_num, hN2⟩
            case measure => simp [intOf]
          · have hfz : (s.size : Int) < ((pos κ 3 : Nat) : Int) + 1 := by omega
            have hn : takeC (bl s) = none := take_none (fun h => by have h2 := h.2.1; rw [htk.out, hbl] at h2; have := pos_le κ (show 4 ≤ 7 by omega); omega)
            replace hn := Lib.hid hn
            replace hrow := Lib.hid hrow
            replace hnx := Lib.hid hnx
            generalize pos κ 3 = pk at *
            go_wp2_with (first | (refine wpList_store_row rfl 29 _ _ rfl B _ rfl rfl 29 _ hbX.out (by kernel_rfl) rfl (by simp [Value.oneCell']) ?_))

            (try simp only [Exit.inBlock, Exit.then])
            refine bodyPost_ret (results_take _ _ _ _ _ rfl (setRow_heap _ _ _ _ _ _ hbX.out) (by kernel_rfl)) rfl ?_
            exact ⟨by rw [hn.out]; rfl, below_setRow hBX.out (Nat.le_refl _) _⟩
      · have cg : wr.cell? ⟨g, 4, none⟩ = some (.int .u64 0) := obj_cell hrow rfl
        have zf : wr.frozen? ⟨g, 4, none⟩ = false := obj_free hrow 4
        cases hu : hasN κ 4 with
        | false =>
          have hb := hU.out.free 4 (by omega) hu
          have hnx : pos κ 5 = pos κ 4 := by show pos κ 4 + (if hasN κ 4 then wid 4 else 0) = _; rw [hu]; rfl
          have hN2 : Hid (pos κ 5 ≤ s.size ∧ wr.heap[g]? = some (.cells (uRow (upTo κ (bl s) 5)) 58 (0, 0)) ∧ Below g v wr) := Lib.hid ⟨by omega, by rw [show (5 : Nat) = 4 + 1 from rfl, upTo_free hu]; exact hrow, hbv.out⟩
          replace hrow := Lib.hid hrow
          replace hnx := Lib.hid hnx
          go_wp2_with fail
          go_roundw
          case rel => exact ⟨5, by omega, by go_num, by rw [hnx.out], hN2⟩
          case measure => simp [intOf]
        | true =>
          have hb := hU.out.used 4 (by omega) hu
          have hby : ((⟨#[49, 52, 49, 49, 49, 56, 56]⟩ : ByteArray)[4]'(by decide)).toNat = 49 := rfl
          have hnx : pos κ 5 = pos κ 4 + 1 := by show pos κ 4 + (if hasN κ 4 then wid 4 else 0) = _; rw [hu]; rfl
          have hwW : IntKind.i64.wrap (IntKind.i64.wrap 49 - 48) = 1 := by decide
          have hzz := IntWalk.i64_in (((pos κ 4 : Nat) : Int) + 1) (by omega)
          by_cases hfit : pos κ 4 + 1 ≤ s.size
          · have hfz : ¬ (s.size : Int) < ((pos κ 4 : Nat) : Int) + 1 := by omega
            have hdk := fun v => hdig.out v (pos κ 4) 1 hfit (by omega)
            have hval : vls (((bl s).drop (pos κ 4)).take 1) = valU κ (bl s) 4 := by unfold valU; rw [hu]; rfl
            rw [hval] at hdk
            have hrow2 := obj_set hrow 4 (.int .u64 (valU κ (bl s) 4 : Nat))
            have hbv2 := hbv.out.setCell (p := ⟨g, 4, none⟩) (Nat.le_refl _) (.int .u64 (valU κ (bl s) 4 : Nat))
            have hN2 : Hid (pos κ 5 ≤ s.size ∧ (wr.setCell ⟨g, 4, none⟩ (.int .u64 (valU κ (bl s) 4 : Nat))).heap[g]? = some (.cells (uRow (upTo κ (bl s) 5)) 58 (0, 0)) ∧ Below g v (wr.setCell ⟨g, 4, none⟩ (.int .u64 (valU κ (bl s) 4 : Nat)))) := Lib.hid ⟨by omega, hrow2, hbv2⟩
            clear hrow2 hbv2
            replace hrow := Lib.hid hrow
            replace hval := Lib.hid hval
            replace hdk := Lib.hid hdk
            generalize hvu : valU κ (bl s) 4 = vu at *
            replace hvu := Lib.hid hvu
            replace hnx := Lib.hid hnx
            generalize hpk : pos κ 4 = pk at *
            replace hpk := Lib.hid hpk
            go_wp2_with (first | (go_at_call 28; (refine (hdk.out _).mono ?_); rintro e w' ⟨rfl, rfl⟩))
            go_roundw
            case rel => exact ⟨5, by omega, by go_num, by rw [hnx.out]; go_num, hN2⟩
            case measure => simp [intOf]
          · have hfz : (s.size : Int) < ((pos κ 4 : Nat) : Int) + 1 := by omega
            have hn : takeC (bl s) = none := take_none (fun h => by have h2 := h.2.1; rw [htk.out, hbl] at h2; have := pos_le κ (show 5 ≤ 7 by omega); omega)
            replace hn := Lib.hid hn
            replace hrow := Lib.hid hrow
            replace hnx := Lib.hid hnx
            generalize pos κ 4 = pk at *
            go_wp2_with (first | (refine wpList_store_row rfl 29 _ _ rfl B _ rfl rfl 29 _ hbX.out (by kernel_rfl) rfl (by simp [Value.oneCell']) ?_))

            (try simp only [Exit.inBlock, Exit.then])
            refine bodyPost_ret (results_take _ _ _ _ _ rfl (setRow_heap _ _ _ _ _ _ hbX.out) (by kernel_rfl)) rfl ?_
            exact ⟨by rw [hn.out]; rfl, below_setRow hBX.out (Nat.le_refl _) _⟩
      · have cg : wr.cell? ⟨g, 5, none⟩ = some (.int .u64 0) := obj_cell hrow rfl
        have zf : wr.frozen? ⟨g, 5, none⟩ = false := obj_free hrow 5
        cases hu : hasN κ 5 with
        | false =>
          have hb := hU.out.free 5 (by omega) hu
          have hnx : pos κ 6 = pos κ 5 := by show pos κ 5 + (if hasN κ 5 then wid 5 else 0) = _; rw [hu]; rfl
          have hN2 : Hid (pos κ 6 ≤ s.size ∧ wr.heap[g]? = some (.cells (uRow (upTo κ (bl s) 6)) 58 (0, 0)) ∧ Below g v wr) := Lib.hid ⟨by omega, by rw [show (6 : Nat) = 5 + 1 from rfl, upTo_free hu]; exact hrow, hbv.out⟩
          replace hrow := Lib.hid hrow
          replace hnx := Lib.hid hnx
          go_wp2_with fail
          go_roundw
          case rel => exact ⟨6, by omega, by go_num, by rw [hnx.out], hN2⟩
          case measure => simp [intOf]
        | true =>
          have hb := hU.out.used 5 (by omega) hu
          have hby : ((⟨#[49, 52, 49, 49, 49, 56, 56]⟩ : ByteArray)[5]'(by decide)).toNat = 56 := rfl
          have hnx : pos κ 6 = pos κ 5 + 8 := by show pos κ 5 + (if hasN κ 5 then wid 5 else 0) = _; rw [hu]; rfl
          have hwW : IntKind.i64.wrap (IntKind.i64.wrap 56 - 48) = 8 := by decide
          have hzz := IntWalk.i64_in (((pos κ 5 : Nat) : Int) + 8) (by omega)
          by_cases hfit : pos κ 5 + 8 ≤ s.size
          · have hfz : ¬ (s.size : Int) < ((pos κ 5 : Nat) : Int) + 8 := by omega
            have hdk := fun v => hdig.out v (pos κ 5) 8 hfit (by omega)
            have hval : vls (((bl s).drop (pos κ 5)).take 8) = valU κ (bl s) 5 := by unfold valU; rw [hu]; rfl
            rw [hval] at hdk
            have hrow2 := obj_set hrow 5 (.int .u64 (valU κ (bl s) 5 : Nat))
            have hbv2 := hbv.out.setCell (p := ⟨g, 5, none⟩) (Nat.le_refl _) (.int .u64 (valU κ (bl s) 5 : Nat))
            have hN2 : Hid (pos κ 6 ≤ s.size ∧ (wr.setCell ⟨g, 5, none⟩ (.int .u64 (valU κ (bl s) 5 : Nat))).heap[g]? = some (.cells (uRow (upTo κ (bl s) 6)) 58 (0, 0)) ∧ Below g v (wr.setCell ⟨g, 5, none⟩ (.int .u64 (valU κ (bl s) 5 : Nat)))) := Lib.hid ⟨by omega, hrow2, hbv2⟩
            clear hrow2 hbv2
            replace hrow := Lib.hid hrow
            replace hval := Lib.hid hval
            replace hdk := Lib.hid hdk
            generalize hvu : valU κ (bl s) 5 = vu at *
            replace hvu := Lib.hid hvu
            replace hnx := Lib.hid hnx
            generalize hpk : pos κ 5 = pk at *
            replace hpk := Lib.hid hpk
            go_wp2_with (first | (go_at_call 28; (refine (hdk.out _).mono ?_); rintro e w' ⟨rfl, rfl⟩))
            go_roundw
            case rel => exact ⟨6, by omega, by go_num, by rw [hnx.out]; go_num, hN2⟩
            case measure => simp [intOf]
          · have hfz : (s.size : Int) < ((pos κ 5 : Nat) : Int) + 8 := by omega
            have hn : takeC (bl s) = none := take_none (fun h => by have h2 := h.2.1; rw [htk.out, hbl] at h2; have := pos_le κ (show 6 ≤ 7 by omega); omega)
            replace hn := Lib.hid hn
            replace hrow := Lib.hid hrow
            replace hnx := Lib.hid hnx
            generalize pos κ 5 = pk at *
            go_wp2_with (first | (refine wpList_store_row rfl 29 _ _ rfl B _ rfl rfl 29 _ hbX.out (by kernel_rfl) rfl (by simp [Value.oneCell']) ?_))

            (try simp only [Exit.inBlock, Exit.then])
            refine bodyPost_ret (results_take _ _ _ _ _ rfl (setRow_heap _ _ _ _ _ _ hbX.out) (by kernel_rfl)) rfl ?_
            exact ⟨by rw [hn.out]; rfl, below_setRow hBX.out (Nat.le_refl _) _⟩
      · have cg : wr.cell? ⟨g, 6, none⟩ = some (.int .u64 0) := obj_cell hrow rfl
        have zf : wr.frozen? ⟨g, 6, none⟩ = false := obj_free hrow 6
        cases hu : hasN κ 6 with
        | false =>
          have hb := hU.out.free 6 (by omega) hu
          have hnx : pos κ 7 = pos κ 6 := by show pos κ 6 + (if hasN κ 6 then wid 6 else 0) = _; rw [hu]; rfl
          have hN2 : Hid (pos κ 7 ≤ s.size ∧ wr.heap[g]? = some (.cells (uRow (upTo κ (bl s) 7)) 58 (0, 0)) ∧ Below g v wr) := Lib.hid ⟨by omega, by rw [show (7 : Nat) = 6 + 1 from rfl, upTo_free hu]; exact hrow, hbv.out⟩
          replace hrow := Lib.hid hrow
          replace hnx := Lib.hid hnx
          go_wp2_with fail
          go_roundw
          case rel => exact ⟨7, by omega, by go_num, by rw [hnx.out], hN2⟩
          case measure => simp [intOf]
        | true =>
          have hb := hU.out.used 6 (by omega) hu
          have hby : ((⟨#[49, 52, 49, 49, 49, 56, 56]⟩ : ByteArray)[6]'(by decide)).toNat = 56 := rfl
          have hnx : pos κ 7 = pos κ 6 + 8 := by show pos κ 6 + (if hasN κ 6 then wid 6 else 0) = _; rw [hu]; rfl
          have hwW : IntKind.i64.wrap (IntKind.i64.wrap 56 - 48) = 8 := by decide
          have hzz := IntWalk.i64_in (((pos κ 6 : Nat) : Int) + 8) (by omega)
          by_cases hfit : pos κ 6 + 8 ≤ s.size
          · have hfz : ¬ (s.size : Int) < ((pos κ 6 : Nat) : Int) + 8 := by omega
            have hdk := fun v => hdig.out v (pos κ 6) 8 hfit (by omega)
            have hval : vls (((bl s).drop (pos κ 6)).take 8) = valU κ (bl s) 6 := by unfold valU; rw [hu]; rfl
            rw [hval] at hdk
            have hrow2 := obj_set hrow 6 (.int .u64 (valU κ (bl s) 6 : Nat))
            have hbv2 := hbv.out.setCell (p := ⟨g, 6, none⟩) (Nat.le_refl _) (.int .u64 (valU κ (bl s) 6 : Nat))
            have hN2 : Hid (pos κ 7 ≤ s.size ∧ (wr.setCell ⟨g, 6, none⟩ (.int .u64 (valU κ (bl s) 6 : Nat))).heap[g]? = some (.cells (uRow (upTo κ (bl s) 7)) 58 (0, 0)) ∧ Below g v (wr.setCell ⟨g, 6, none⟩ (.int .u64 (valU κ (bl s) 6 : Nat)))) := Lib.hid ⟨by omega, hrow2, hbv2⟩
            clear hrow2 hbv2
            replace hrow := Lib.hid hrow
            replace hval := Lib.hid hval
            replace hdk := Lib.hid hdk
            generalize hvu : valU κ (bl s) 6 = vu at *
            replace hvu := Lib.hid hvu
            replace hnx := Lib.hid hnx
            generalize hpk : pos κ 6 = pk at *
            replace hpk := Lib.hid hpk
            go_wp2_with (first | (go_at_call 28; (refine (hdk.out _).mono ?_); rintro e w' ⟨rfl, rfl⟩))
            go_roundw
            case rel => exact ⟨7, by omega, by go_num, by rw [hnx.out]; go_num, hN2⟩
            case measure => simp [intOf]
          · have hfz : (s.size : Int) < ((pos κ 6 : Nat) : Int) + 8 := by omega
            have hn : takeC (bl s) = none := take_none (fun h => by have h2 := h.2.1; rw [htk.out, hbl] at h2; have := pos_le κ (show 7 ≤ 7 by omega); omega)
            replace hn := Lib.hid hn
            replace hrow := Lib.hid hrow
            replace hnx := Lib.hid hnx
            generalize pos κ 6 = pk at *
            go_wp2_with (first | (refine wpList_store_row rfl 29 _ _ rfl B _ rfl rfl 29 _ hbX.out (by kernel_rfl) rfl (by simp [Value.oneCell']) ?_))

            (try simp only [Exit.inBlock, Exit.then])
            refine bodyPost_ret (results_take _ _ _ _ _ rfl (setRow_heap _ _ _ _ _ _ hbX.out) (by kernel_rfl)) rfl ?_
            exact ⟨by rw [hn.out]; rfl, below_setRow hBX.out (Nat.le_refl _) _⟩
  · have he : usesL κ = [] := (uses_known _).2 (by simpa using hk)
    have hn : takeC (bl s) = none := take_none (fun h => hk (by have := ((mayC_iff _).1 h.2.2).1; rwa [htk.out] at this))
    replace hn := Lib.hid hn
    replace he := Lib.hid he
    go_wp2_with (first | (go_at_call 21; (refine (cUk.out _).mono ?_); rintro e w' ⟨rfl, rfl⟩; rw [he.out]) | (refine wpList_store_row rfl 29 _ _ rfl B _ rfl rfl 29 _ hbx.out (by kernel_rfl) rfl (by simp [Value.oneCell']) ?_))
    (try simp only [Exit.inBlock, Exit.then])
    refine bodyPost_ret (results_take _ _ _ _ _ rfl (setRow_heap _ _ _ _ _ _ hbx.out) (by kernel_rfl)) rfl ?_
    exact ⟨by rw [hn.out]; rfl, below_setRow hB0.out (Nat.le_refl _) _⟩
end Go.Proofs.Ytgcliallkfnhaaa
