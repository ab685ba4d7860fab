/- The sizes in memory; the contract of takeEntry. -/
import Derived.Test.YtflbggehgjllcaaDoorDI
import Derived.Test.YtflbggehgjllcaaDoorDC
import Derived.Laws.CopyOwn
namespace Go.Proofs.YtflbggehgjllcaaDoor
open Go.RowKit Go.Maps
set_option linter.unusedVariables false

def szs : List Nat := [4, 1, 1, 1, 1, 8, 8, 1, 1, 2]
def sz (k : Nat) : Nat := szs.getD k 0
def off (k : Nat) : Nat := (szs.take k).sum
theorem ten {Q : Nat → Prop} (h0 : Q 0) (h1 : Q 1) (h2 : Q 2) (h3 : Q 3) (h4 : Q 4) (h5 : Q 5) (h6 : Q 6) (h7 : Q 7) (h8 : Q 8) (h9 : Q 9) : ∀ k, k < 10 → Q k := fun k hk => by
  have : k = 0 ∨ k = 1 ∨ k = 2 ∨ k = 3 ∨ k = 4 ∨ k = 5 ∨ k = 6 ∨ k = 7 ∨ k = 8 ∨ k = 9 := by omega
  rcases this with rfl | rfl | rfl | rfl | rfl | rfl | rfl | rfl | rfl | rfl <;> assumption
theorem off_succ : ∀ k, k < 10 → off (k + 1) = off k + sz k := ten rfl rfl rfl rfl rfl rfl rfl rfl rfl rfl
theorem sz_le : ∀ k, k < 10 → sz k ≤ 8 := ten (by decide) (by decide) (by decide) (by decide) (by decide) (by decide) (by decide) (by decide) (by decide) (by decide)
theorem off_le : ∀ k, k < 10 → off k + sz k ≤ 28 := ten (by decide) (by decide) (by decide) (by decide) (by decide) (by decide) (by decide) (by decide) (by decide) (by decide)
/-- the package's sizes -/
def SZ (w : World) : Prop := ∀ k, k < 10 → w.cell? ⟨0, k, none⟩ = some (.int .i64 (sz k : Nat))
theorem SZ.kp {F : Nat → Prop} {w w' : World} (h : SZ w) (hK : Kp F w w') (hF : ¬ F 0) : SZ w' := fun k hk => hK.cell (h k hk) hF
theorem SZ.below {w w' : World} (h : SZ w) (hb : Below w.heap.size w w') : SZ w' := h.kp (Kp.of_below (F := fun _ => False) hb) id
theorem SZ.lt {w : World} (h : SZ w) : 0 < w.heap.size := World.block_lt_of_cell? w ⟨0, 0, none⟩ (h 0 (by omega))
theorem idx69 (w : World) : ∀ k, k < 10 → (Instr.index 69 (.agg #[.int .i64 4, .int .i64 1, .int .i64 1, .int .i64 1, .int .i64 1, .int .i64 8, .int .i64 8, .int .i64 1, .int .i64 1, .int .i64 2]) (.int .i64 (k : Nat))).run Tryd.prog w = .ok (.int .i64 (sz k : Nat)) w :=
  ten (by kernel_rfl) (by kernel_rfl) (by kernel_rfl) (by kernel_rfl) (by kernel_rfl) (by kernel_rfl) (by kernel_rfl) (by kernel_rfl) (by kernel_rfl) (by kernel_rfl)
/-- a number of an entry's bytes -/
def fld (l : List UInt8) (k : Nat) : Int := toI (vls ((l.drop (off k)).take (sz k)))
def eOf (l : List UInt8) : En := ⟨⟨fld l 0, fld l 1, fld l 2, fld l 3, fld l 4, fld l 5, fld l 6⟩, fld l 7, fld l 8, fld l 9⟩
def nA (l : List UInt8) (k : Nat) : Array Value := ((List.range 10).map fun i => Value.int .i64 (if i < k then fld l i else 0)).toArray
theorem nA_get (l : List UInt8) (k i : Nat) (hi : i < 10) : (nA l k)[i]? = some (.int .i64 (if i < k then fld l i else 0)) := by
  unfold nA; simp [hi]
theorem nA_set (l : List UInt8) (k : Nat) (hk : k < 10) : (nA l k).setIfInBounds k (.int .i64 (fld l k)) = nA l (k + 1) := by
  apply Array.ext_getElem?
  intro i
  rw [Array.getElem?_setIfInBounds]
  by_cases h10 : i < 10
  · by_cases e : k = i
    · subst e
      rw [if_pos rfl, if_pos (by unfold nA; simp; exact hk), nA_get l _ _ h10, if_pos (by omega)]
    · rw [if_neg e, nA_get l _ _ h10, nA_get l _ _ h10]
      by_cases h : i < k
      · rw [if_pos h, if_pos (by omega)]
      · rw [if_neg h, if_neg (by omega)]
  · have hn : ∀ m, (nA l m)[i]? = none := fun m => by apply Array.getElem?_eq_none; unfold nA; simp; omega
    rw [if_neg (by omega), hn, hn]
theorem nA_zero (l : List UInt8) : nA l 0 = #[.int .i64 0, .int .i64 0, .int .i64 0, .int .i64 0, .int .i64 0, .int .i64 0, .int .i64 0, .int .i64 0, .int .i64 0, .int .i64 0] := by
  unfold nA; simp [List.range, List.range.loop]
theorem bl_drop (r : ByteArray) (k : Nat) : bl (r.extract k r.size) = (bl r).drop k := by
  unfold bl
  rw [ByteArray.data_extract, Array.toList_extract]
  have : r.size = r.data.toList.length := by show r.data.size = _; simp
  simp only [List.extract]
  rw [List.take_of_length_le (by rw [List.length_drop]; omega)]
/-- behind k numbers -/
structure TE (w : World) (s : ByteArray) (k : Nat) (r : ByteArray) (wr : World) : Prop where
  bytes : bl r = (bl s).drop (off k)
  arr : wr.heap[w.heap.size + 1]? = some (.cells (nA (bl s) k) 67 (0, 0))
  res : ∃ cs, wr.heap[w.heap.size]? = some (.cells cs 65 (0, 0)) ∧ cs.size = 10
  bl : Below w.heap.size w wr
set_option maxHeartbeats 2000000 in
set_option maxRecDepth 100000 in
theorem takeEntry_any (s : ByteArray) (w : World) (hs : 28 ≤ s.size) (hsz : s.size ≤ 100000) (hZ : SZ w) :
    Calls Tryd.prog 38 #[.string s] w fun e w' => ∃ r, e = .returned (.tuple #[(eOf (bl s)).val, .string r]) ∧ bl r = (bl s).drop 28 ∧ Below w.heap.size w w' := by
  have h0 : TE w s 0 s ((w.alloc (.cells #[.int .i64 0, .int .i64 0, .int .i64 0, .int .i64 0, .int .i64 0, .int .i64 0, .int .i64 0, .int .i64 0, .int .i64 0, .int .i64 0] 65)).alloc (.cells #[.int .i64 0, .int .i64 0, .int .i64 0, .int .i64 0, .int .i64 0, .int .i64 0, .int .i64 0, .int .i64 0, .int .i64 0, .int .i64 0] 67)) :=
    ⟨rfl, by rw [nA_zero]; exact new_two w _ _, ⟨_, by rw [Below.heap_alloc _ _ _ (by simp)]; exact heap_alloc_new w _, rfl⟩, ((Below.refl _ _).alloc (Nat.le_refl _) _).alloc (by simp) _⟩
  have z0 := hZ 0 (by omega)
  have z1 := hZ 1 (by omega)
  have z2 := hZ 2 (by omega)
  have z3 := hZ 3 (by omega)
  have z4 := hZ 4 (by omega)
  have z5 := hZ 5 (by omega)
  have z6 := hZ 6 (by omega)
  have z7 := hZ 7 (by omega)
  have z8 := hZ 8 (by omega)
  have z9 := hZ 9 (by omega)
  have hzl := hZ.lt
  change w.cell? ⟨0, 0, none⟩ = some (.int .i64 4) at z0
  change w.cell? ⟨0, 1, none⟩ = some (.int .i64 1) at z1
  change w.cell? ⟨0, 2, none⟩ = some (.int .i64 1) at z2
  change w.cell? ⟨0, 3, none⟩ = some (.int .i64 1) at z3
  change w.cell? ⟨0, 4, none⟩ = some (.int .i64 1) at z4
  change w.cell? ⟨0, 5, none⟩ = some (.int .i64 8) at z5
  change w.cell? ⟨0, 6, none⟩ = some (.int .i64 8) at z6
  change w.cell? ⟨0, 7, none⟩ = some (.int .i64 1) at z7
  change w.cell? ⟨0, 8, none⟩ = some (.int .i64 1) at z8
  change w.cell? ⟨0, 9, none⟩ = some (.int .i64 2) at z9
  replace hZ := Lib.hid hZ
  replace h0 := Lib.hid h0
  have hbs := bl_length s
  replace hbs := Lib.hid hbs
  go_enter Tryd.func38, Tryd.ntmps38
  go_wp2_with fail
  go_loopw [0, 8] (fun v i wr => ∃ k : Nat, k ≤ 10 ∧ i = .int .i64 (k : Int) ∧ ∃ r, v = .string r ∧ Hid (TE w s k r wr)) (fun _ i _ => 10 - (intOf i).toNat)
  case atStart => exact ⟨0, by omega, rfl, s, rfl, h0⟩
  case round =>
    obtain ⟨k, hk, rfl, r, rfl, hS⟩ := hrel
    by_cases hkn : k < 10
    · have hkz : (k : Int) < 10 := by omega
      have hix := fun w => idx69 w k hkn
      have hrl : r.size + off k = s.size := by
        have h1 := hS.out.bytes
        have h2 := bl_length r
        have h3 := hbs.out
        have h4 := off_le k hkn
        rw [← h2, h1, List.length_drop, h3]; omega
      have h5 := sz_le k hkn
      have h6 := off_le k hkn
      have htk := fun w1 => take_any r (sz k) w1 h5 (by omega) (by omega)
      have hval : toI (vls ((bl r).take (sz k))) = fld (bl s) k := by rw [hS.out.bytes]; rfl
      rw [hval] at htk
      have ca : wr.cell? ⟨w.heap.size + 1, k, none⟩ = some (.int .i64 (if k < k then fld (bl s) k else 0)) := obj_cell hS.out.arr (nA_get _ _ _ hkn)
      rw [if_neg (by omega)] at ca
      have fa := obj_free hS.out.arr k
      have hstep : ∀ n, TE w s (k + 1) (r.extract (sz k) r.size) ((wr.drewN n).setCell ⟨w.heap.size + 1, k, none⟩ (.int .i64 (fld (bl s) k))) := fun n => by
        have h := hS.out
        refine ⟨?_, ?_, ?_, ?_⟩
        · rw [bl_drop, h.bytes, List.drop_drop, off_succ k hkn]
        · have := obj_set (w := wr.drewN n) h.arr k (.int .i64 (fld (bl s) k))
          rw [nA_set _ _ hkn] at this; exact this
        · obtain ⟨cs, h1, h2⟩ := h.res
          exact ⟨cs, (obj_other (w := wr.drewN n) (a := ⟨w.heap.size + 1, k, none⟩) _ (by simp)).trans h1, h2⟩
        · exact Below.setCell (w := wr.drewN n) ⟨h.bl.os, h.bl.tape, h.bl.output, h.bl.size, h.bl.block⟩ (by simp) _
      have hfs : Hid (fld (bl s) k = fld (bl s) k) := Lib.hid rfl
      generalize fld (bl s) k = y at *
      generalize sz k = z at *
      replace hstep := Lib.hid hstep
      replace htk := Lib.hid htk
      clear hval hrl
      go_wp2_with (go_at_call 37; (with_reducible refine (htk.out _).mono ?_); rintro e w1 ⟨rfl, n, rfl⟩)
      go_roundw
      case rel => exact ⟨k + 1, by omega, by go_num, _, rfl, Lib.hid (hstep.out _)⟩
      case measure => simp [intOf]; omega
    · obtain rfl : k = 10 := by omega
      have hkz : ¬ (10 : Int) < 10 := by omega
      have ha : ∀ j, j < 10 → wr.cell? ⟨w.heap.size + 1, j, none⟩ = some (.int .i64 (fld (bl s) j)) := fun j hj => by
        have := obj_cell hS.out.arr (nA_get (bl s) 10 j hj)
        rwa [if_pos hj] at this
      have a0 := ha 0 (by omega)
      have a1 := ha 1 (by omega)
      have a2 := ha 2 (by omega)
      have a3 := ha 3 (by omega)
      have a4 := ha 4 (by omega)
      have a5 := ha 5 (by omega)
      have a6 := ha 6 (by omega)
      have a7 := ha 7 (by omega)
      have a8 := ha 8 (by omega)
      have a9 := ha 9 (by omega)
      have hex := fun w1 => entryOf_any (eOf (bl s)) w1
      obtain ⟨cs, hcs, hcl⟩ := hS.out.res
      have hbw := hS.out.bl
      have hby : bl r = (bl s).drop 28 := hS.out.bytes
      have hres2 : ∀ w2, Below wr.heap.size wr w2 → w2.heap[w.heap.size]? = some (.cells cs 65 (0, 0)) := fun w2 hb => (hb.block _ (obj_lt hcs)).trans hcs
      unfold En.val En.nums eOf at hex
      replace hres2 := Lib.hid hres2
      replace hbw := Lib.hid hbw
      replace hby := Lib.hid hby
      replace hcl := Lib.hid hcl
      replace hcs := Lib.hid hcs
      clear ha
      go_wp2_with (first | (go_at_call 56; (with_reducible refine (hex _).mono ?_); rintro e w2 ⟨rfl, hb2⟩; have hh2 := Lib.hid (hres2.out w2 hb2); replace hb2 := Lib.hid hb2) | (refine wpList_store_row rfl 65 _ _ rfl w.heap.size _ rfl rfl 65 _ hh2.out (by kernel_rfl) hcl.out (by simp [Value.oneCell']) ?_))
      have hrow := setRow_heap w2 w.heap.size cs #[.int .i64 (fld (bl s) 0), .int .i64 (fld (bl s) 1), .int .i64 (fld (bl s) 2), .int .i64 (fld (bl s) 3), .int .i64 (fld (bl s) 4), .int .i64 (fld (bl s) 5), .int .i64 (fld (bl s) 6), .int .i64 (fld (bl s) 7), .int .i64 (fld (bl s) 8), .int .i64 (fld (bl s) 9)] 65 (0, 0) hh2.out
      have d0 := obj_cell hrow (i := 0) rfl
      have d1 := obj_cell hrow (i := 1) rfl
      have d2 := obj_cell hrow (i := 2) rfl
      have d3 := obj_cell hrow (i := 3) rfl
      have d4 := obj_cell hrow (i := 4) rfl
      have d5 := obj_cell hrow (i := 5) rfl
      have d6 := obj_cell hrow (i := 6) rfl
      have d7 := obj_cell hrow (i := 7) rfl
      have d8 := obj_cell hrow (i := 8) rfl
      have d9 := obj_cell hrow (i := 9) rfl
      replace hrow := Lib.hid hrow
      go_wp2_with fail
      exact bodyPost_ret (v := .tuple #[.agg #[.int .i64 (fld (bl s) 0), .int .i64 (fld (bl s) 1), .int .i64 (fld (bl s) 2), .int .i64 (fld (bl s) 3), .int .i64 (fld (bl s) 4), .int .i64 (fld (bl s) 5), .int .i64 (fld (bl s) 6), .int .i64 (fld (bl s) 7), .int .i64 (fld (bl s) 8), .int .i64 (fld (bl s) 9)], .string r]) (by simp [results, Tryd.results38, go_sem, d0, d1, d2, d3, d4, d5, d6, d7, d8, d9]) rfl ⟨r, rfl, hby.out, below_setRow (hbw.out.trans (hb2.out.mono hbw.out.size)) (Nat.le_refl _) _⟩
end Go.Proofs.YtflbggehgjllcaaDoor
