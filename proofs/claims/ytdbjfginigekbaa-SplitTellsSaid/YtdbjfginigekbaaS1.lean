/- Rows of the call's own; the contracts of split's check and part. -/
import Derived.Test.YtdbjfginigekbaaB2
import Derived.Laws.MakeOwn
import Derived.OwnWalk
namespace Go.Proofs.Ytdbjfginigekbaa
open Go.RowKit
set_option linter.unusedVariables false

/-- a row of ints, whole, in a block of the call's own; t: its element's type -/
def IRow (t : TypeId) (w : World) (g : Nat) (ds : List Int) : Prop := w.heap[g]? = some (.cells ((ds.map (Value.int .i64)).toArray) t (0, 0))
theorem IRow.lt {t : TypeId} {w : World} {g : Nat} {ds : List Int} (h : IRow t w g ds) : g < w.heap.size := (Array.getElem?_eq_some_iff.1 h).1
theorem IRow.kept {t : TypeId} {w w' : World} {g : Nat} {ds : List Int} (h : IRow t w g ds) (hb : Below w.heap.size w w') : IRow t w' g ds := (hb.block g h.lt).trans h
theorem IRow.cell {t : TypeId} {w : World} {g i : Nat} {ds : List Int} (h : IRow t w g ds) (hi : i < ds.length) : w.cell? ⟨g, i, none⟩ = some (.int .i64 (ds.getD i 0)) := by
  rw [cell_of_row w g i _ t (0, 0) h]
  simp only [List.getElem?_toArray, List.getElem?_map]
  rw [List.getD_eq_getElem?_getD, List.getElem?_eq_getElem hi]
  rfl
theorem IRow.free {t : TypeId} {w : World} {g i : Nat} {ds : List Int} (h : IRow t w g ds) : w.frozen? ⟨g, i, none⟩ = false := by
  unfold IRow at h
  simp [World.frozen?, h]
theorem IRow.set {t : TypeId} {w : World} {g i : Nat} {ds : List Int} (h : IRow t w g ds) (d : Int) : IRow t (w.setCell ⟨g, i, none⟩ (.int .i64 d)) g (ds.set i d) := by
  unfold IRow at *
  simp [World.setCell, Array.getElem?_modify, h, List.map_set]
theorem IRow.other {t : TypeId} {w : World} {g : Nat} {ds : List Int} (h : IRow t w g ds) {a : Addr} (hne : g ≠ a.block) (u : Value) : IRow t (w.setCell a u) g ds := (Below.heap_setCell w a u g hne).trans h
theorem IRow.drew {t : TypeId} {w : World} {g : Nat} {ds : List Int} (h : IRow t w g ds) : IRow t w.drew g ds := h
theorem IRow.alloc {t : TypeId} {w : World} {g : Nat} {ds : List Int} (h : IRow t w g ds) (o : Obj) : IRow t (w.alloc o) g ds := (Below.heap_alloc w o g h.lt).trans h
/-- n cells that hold 0 -/
def zeros (n : Nat) : Array Value := ((List.replicate n (0 : Int)).map (Value.int .i64)).toArray
theorem IRow.made (t : TypeId) (X : World) (n : Nat) : IRow t (X.alloc (.cells (zeros n) t)) X.heap.size (List.replicate n 0) := heap_alloc_new X _

theorem made_zeros (n : Nat) : madeCells #[Value.int .i64 0] n = zeros n := by
  unfold zeros
  apply Array.ext
  · simp [size_madeCells]
  · intro i h1 h2
    simp [madeCells, Nat.mod_one]

theorem info_2 : (Try.prog.info? 2).map (fun i => (i.zero, i.size, i.bytes)) = some (some (.int .i64 0), 1, 8) := by kernel_rfl
theorem info_3 : (Try.prog.info? 3).map (fun i => (i.zero, i.size, i.bytes)) = some (some (.int .i64 0), 1, 8) := by kernel_rfl

theorem make_row (t e : TypeId) (ht : Try.prog.underlying t = some (.slice e)) (he : (Try.prog.info? e).map (fun i => (i.zero, i.size, i.bytes)) = some (some (.int .i64 0), 1, 8)) (n : Nat) (hn : n ≤ 1000000) (w : World) :
    (Instr.makeSlice t (.int .i64 (n : Int)) (.int .i64 (n : Int))).run Try.prog w = .ok (.slice (some ⟨w.heap.size, 0, none⟩) n n) (w.alloc (.cells (zeros n) e)) := by
  obtain ⟨i0, hi, hz0, hz1, hz2⟩ := info_parts he
  have hb : (i0.bytes : Int) * (n : Int) ≤ 281474976710656 := by rw [hz2]; omega
  have hr := run_make (P := Try.prog) w t e i0 (.int .i64 0) ht hi hz0 .i64 .i64 n n (by omega) (by omega) hb (by omega)
  simp only [Int.toNat_natCast, hz1, Nat.mul_one] at hr
  rw [hr, ← made_zeros]
  rfl
theorem make22 (n : Nat) (hn : n ≤ 1000000) (w : World) : (Instr.makeSlice 22 (.int .i64 (n : Int)) (.int .i64 (n : Int))).run Try.prog w = .ok (.slice (some ⟨w.heap.size, 0, none⟩) n n) (w.alloc (.cells (zeros n) 2)) := make_row 22 2 Try.underlying22 info_2 n hn w
theorem make38 (n : Nat) (hn : n ≤ 1000000) (w : World) : (Instr.makeSlice 38 (.int .i64 (n : Int)) (.int .i64 (n : Int))).run Try.prog w = .ok (.slice (some ⟨w.heap.size, 0, none⟩) n n) (w.alloc (.cells (zeros n) 2)) := make_row 38 2 Try.underlying38 info_2 n hn w
theorem make41 (n : Nat) (hn : n ≤ 1000000) (w : World) : (Instr.makeSlice 41 (.int .i64 (n : Int)) (.int .i64 (n : Int))).run Try.prog w = .ok (.slice (some ⟨w.heap.size, 0, none⟩) n n) (w.alloc (.cells (zeros n) 3)) := make_row 41 3 Try.underlying41 info_3 n hn w

/-- what check tells -/
def chk (T : Int) (zs : List Int) : Int := if 64 < zs.length then 4 else if T < 0 then 1 else if ∃ z ∈ zs, z < 0 then 1 else 0

set_option maxHeartbeats 1000000 in
set_option maxRecDepth 100000 in
theorem check_any (T : Int) (p : Option Addr) (len cap : Nat) (zs : List Int) (w : World) (hT : Amt T) (hs : Seq64 w p len zs) :
    Calls Try.prog 18 #[.int .i64 T, .slice p len cap] w fun e w' => e = .returned (.int .i64 (chk T zs)) ∧ w' = w := by
  obtain ⟨hl, hz, hm, hcells⟩ := hs
  replace hl := Lib.hid hl
  replace hz := Lib.hid hz
  replace hcells := Lib.hid hcells
  go_enter Try.func18, Try.ntmps18
  by_cases h64 : 64 < len
  · have h64z : (64 : Int) < (len : Int) := by omega
    go_wp2_with fail
    go_ret
    exact ⟨by unfold chk; rw [if_pos (by rw [hl.out]; exact h64)]; rfl, rfl⟩
  · have h64z : ¬ (64 : Int) < (len : Int) := by omega
    by_cases hneg : T < 0
    · go_wp2_with fail
      go_ret
      exact ⟨by unfold chk; rw [if_neg (by rw [hl.out]; exact h64), if_pos hneg]; rfl, rfl⟩
    · go_wp2_with fail
      go_loopw [14] (fun i wr => ∃ k : Nat, k ≤ len ∧ i = .int .i64 k ∧ wr = w ∧ ∀ z ∈ zs.take k, 0 ≤ z) (fun i _ => len - (intOf i).toNat)
      case atStart => exact ⟨0, by omega, rfl, rfl, by simp⟩
      case round =>
        obtain ⟨k, hk, rfl, rfl, hall⟩ := hrel
        replace hall := Lib.hid hall
        by_cases hlt : k < len
        · obtain ⟨b, off, rfl, hblt, hc⟩ := hcells.out.resolve_left (by omega)
          have hcell := hc k hlt
          obtain ⟨z0, z1⟩ := hz.out k
          have htk := take_one zs k (by rw [hl.out]; exact hlt)
          have hmem : zs.getD k 0 ∈ zs := by
            rw [List.getD_eq_getElem?_getD, List.getElem?_eq_getElem (by rw [hl.out]; exact hlt)]; exact List.getElem_mem _
          generalize hzk : zs.getD k 0 = z at *
          replace hzk := Lib.hid hzk
          replace htk := Lib.hid htk
          replace hmem := Lib.hid hmem
          clear hc
          by_cases hzn : z < 0
          · go_wp2_with fail
            go_ret
            exact ⟨by unfold chk; rw [if_neg (by rw [hl.out]; exact h64), if_neg (by omega), if_pos ⟨z, hmem.out, hzn⟩]; rfl, rfl⟩
          · go_wp2_with fail
            go_roundw
            case rel =>
              refine ⟨k + 1, by omega, by go_num, trivial, ?_⟩
              rw [htk.out]
              intro y hy
              rcases List.mem_append.1 hy with h | h
              · exact hall.out y h
              · simp at h; omega
            case measure => simp [intOf]; omega
        · go_wp2_with fail
          go_ret
          refine ⟨?_, rfl⟩
          have e : zs.take k = zs := List.take_of_length_le (by rw [hl.out]; omega)
          have h := hall.out
          rw [e] at h
          unfold chk
          rw [if_neg (by rw [hl.out]; exact h64), if_neg (by omega), if_neg (by rintro ⟨z, hz1, hz2⟩; have := h z hz1; omega)]
          rfl

theorem wrap_diff (A B : Int) (h0 : 0 ≤ A - B) (h1 : A - B ≤ 9223372036854775807) : wrap64 (wrap64 A - wrap64 B) = A - B := by
  unfold wrap64; omega

theorem part_bd (T z S : Int) (hT : 0 ≤ T) (hz : 0 ≤ z) (hzS : z ≤ S) (hS : 1 ≤ S) : 0 ≤ T * z / S ∧ T * z / S ≤ T ∧ 0 ≤ T * z - T * z / S * S ∧ T * z - T * z / S * S < S ∧ T * z - T * z / S * S = T * z % S := by
  have h0 : 0 ≤ T * z := Int.mul_nonneg hT hz
  have h1 : T * z ≤ T * S := Int.mul_le_mul_of_nonneg_left hzS hT
  have h2 := Int.emod_nonneg (T * z) (by omega : S ≠ 0)
  have h3 := Int.emod_lt_of_pos (T * z) (by omega : 0 < S)
  have h4 := Int.mul_ediv_add_emod (T * z) S
  have h5 : 0 ≤ T * z / S := Int.ediv_nonneg h0 (by omega)
  have h6 : T * z / S ≤ T := by
    have : T * z / S ≤ T * S / S := Int.ediv_le_ediv (by omega) h1
    rwa [Int.mul_ediv_cancel _ (by omega : S ≠ 0)] at this
  have h7 : T * z / S * S = S * (T * z / S) := Int.mul_comm _ _
  refine ⟨h5, h6, ?_, ?_, ?_⟩ <;> omega

set_option maxHeartbeats 1000000 in
set_option maxRecDepth 100000 in
theorem part_any (T z S : Int) (w : World) (hT : 0 ≤ T) (hT1 : T ≤ 9223372036854775807) (hz : 0 ≤ z) (hzS : z ≤ S) (hS : 1 ≤ S) (hS1 : S ≤ 9223372036854775807) :
    Calls Try.prog 19 #[.int .i64 T, .int .i64 z, .int .i64 S] w fun e w' => e = .returned (.tuple #[.int .i64 (T * z / S), .int .i64 (T * z % S)]) ∧ Below w.heap.size w w' := by
  obtain ⟨q0, q1, r0, r1, r2⟩ := part_bd T z S hT hz hzS hS
  have hcon := muldiv_any T z S false w (by omega) (by omega) (by omega) (by omega) hS hS1
  have e : muldiv T z S false = T * z / S := rfl
  rw [e, ← (fit_yes (T * z / S) (by omega) (by omega)).1, ← (fit_yes (T * z / S) (by omega) (by omega)).2] at hcon
  clear e
  have hw := wrap_diff (T * z) (T * z / S * S) r0 (by omega)
  rw [r2] at hw
  clear r0 r1 r2
  generalize T * z / S = q at *
  generalize T * z % S = r at *
  replace hw := Lib.hid hw
  go_enter Try.func19, Try.ntmps19
  go_wp2_with (first | (go_at_call 16; refine hcon.mono ?_; rintro e w' ⟨rfl, hb⟩))
  rw [hw.out]
  go_ret2
  exact ⟨rfl, hb⟩
end Go.Proofs.Ytdbjfginigekbaa
