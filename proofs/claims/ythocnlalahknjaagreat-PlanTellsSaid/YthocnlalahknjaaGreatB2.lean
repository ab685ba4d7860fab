/- The contracts of money's Sum and Chain, over a slice of amounts.
  awake answers true. -/
import Derived.Test.YthocnlalahknjaaGreatA5
namespace Go.Proofs.YthocnlalahknjaaGreat
open Go.RowKit
set_option linter.unusedVariables false

/-- an amount -/
def Amt (z : Int) : Prop := -9223372036854775808 ≤ z ∧ z ≤ 9223372036854775807
/-- a slice's elements, in a world -/
def Seq64 (w : World) (a : Option Addr) (len : Nat) (zs : List Int) : Prop :=
  zs.length = len ∧ (∀ i, Amt (zs.getD i 0)) ∧ len ≤ 4611686018427387904 ∧
    (len = 0 ∨ ∃ b off, a = some ⟨b, off, none⟩ ∧ b < w.heap.size ∧ ∀ i, i < len → w.cell? ⟨b, off + i, none⟩ = some (.int .i64 (zs.getD i 0)))
theorem Seq64.kept {w w' : World} {a : Option Addr} {len : Nat} {zs : List Int} (h : Seq64 w a len zs) (hb : Below w.heap.size w w') : Seq64 w' a len zs := by
  obtain ⟨h1, h2, h3, h4⟩ := h
  refine ⟨h1, h2, h3, ?_⟩
  rcases h4 with h4 | ⟨b, off, e, hlt, hc⟩
  · exact .inl h4
  · exact .inr ⟨b, off, e, Nat.lt_of_lt_of_le hlt hb.size, fun i hi => (hb.cell (p := ⟨b, off + i, none⟩) hlt).trans (hc i hi)⟩

/-- a and each, one after the other -/
def chainL (a : Int) : List Int → Int × Int
  | [] => (a, 0)
  | b :: r => if -9223372036854775808 ≤ a + b ∧ a + b ≤ 9223372036854775807 then chainL (a + b) r else (0, 3)
def sumL : List Int → Int
  | [] => 0
  | b :: r => b + sumL r
theorem sumL_append (l r : List Int) : sumL (l ++ r) = sumL l + sumL r := by
  induction l with
  | nil => simp [sumL]
  | cons a l ih => simp only [List.cons_append, sumL, ih]; omega
theorem take_one (zs : List Int) (k : Nat) (h : k < zs.length) : zs.take (k + 1) = zs.take k ++ [zs.getD k 0] := by
  rw [List.take_succ_eq_append_getElem h]; simp [List.getD, h]
theorem drop_one (zs : List Int) (k : Nat) (h : k < zs.length) : zs.drop k = zs.getD k 0 :: zs.drop (k + 1) := by
  rw [List.drop_eq_getElem_cons h]; simp [List.getD, h]
theorem sum_take (zs : List Int) (k : Nat) (h : k < zs.length) : sumL (zs.take (k + 1)) = sumL (zs.take k) + zs.getD k 0 := by
  rw [take_one zs k h, sumL_append]; simp [sumL]
theorem sum_bd (zs : List Int) (hz : ∀ i, Amt (zs.getD i 0)) : ∀ k, k ≤ zs.length → -9223372036854775808 * (k : Int) ≤ sumL (zs.take k) ∧ sumL (zs.take k) ≤ 9223372036854775808 * (k : Int)
  | 0, _ => by simp [sumL]
  | k + 1, h => by
    obtain ⟨h1, h2⟩ := sum_bd zs hz k (by omega)
    obtain ⟨h3, h4⟩ := hz k
    rw [sum_take zs k (by omega)]
    omega

set_option maxHeartbeats 1000000 in
theorem sum_any (p : Option Addr) (len cap : Nat) (zs : List Int) (w : World) (hs : Seq64 w p len zs) :
    Calls Tryz.prog 19 #[.slice p len cap] w fun e w' => e = .returned (.tuple #[.int .i64 (fitV (sumL zs)), .int .i64 (fitE (sumL zs))]) ∧ Below w.heap.size w w' := by
  obtain ⟨hl, hz, hm, hcells⟩ := hs
  replace hl := Lib.hid hl
  replace hz := Lib.hid hz
  replace hcells := Lib.hid hcells
  go_enter Tryz.func19, Tryz.ntmps19
  go_wp2_with fail
  go_loopw [9] (fun i wr => ∃ (k : Nat), k ≤ len ∧ i = .int .i64 k ∧ wr.cell? ⟨w.heap.size, 0, none⟩ = some (.int .u64 (wh (sumL (zs.take k)))) ∧ wr.cell? ⟨w.heap.size, 1, none⟩ = some (.int .u64 (wl (sumL (zs.take k)))) ∧
    wr.frozen? ⟨w.heap.size, 0, none⟩ = false ∧ wr.frozen? ⟨w.heap.size, 1, none⟩ = false ∧ w.heap.size < wr.heap.size ∧ Below w.heap.size w wr) (fun i _ => len - (intOf i).toNat)
  case atStart => exact ⟨0, by omega, rfl, by go_simp; rfl, by go_simp; rfl, by go_simp, by go_simp, by simp, (Below.refl _ _).alloc (Nat.le_refl _) _⟩
  case round =>
    obtain ⟨k, hk, rfl, c0, c1, f0, f1, hsz, hbel⟩ := hrel
    by_cases hlt : k < len
    · obtain ⟨b, off, rfl, hblt, hc⟩ := hcells.out.resolve_left (by omega)
      have hcell : wr.cell? ⟨b, off + k, none⟩ = some (.int .i64 (zs.getD k 0)) := (hbel.cell (p := ⟨b, off + k, none⟩) hblt).trans (hc k hlt)
      have hd := sum_take zs k (by rw [hl.out]; exact hlt)
      obtain ⟨z0, z1⟩ := hz.out k
      generalize hzk : zs.getD k 0 = z at *
      generalize hS : sumL (zs.take k) = S at *
      replace hd := Lib.hid hd
      replace hzk := Lib.hid hzk
      replace hS := Lib.hid hS
      replace hbel := Lib.hid hbel
      clear hc
      go_wp2_with fail
      go_region_with (first
        | (go_at_call 44; refine (widen_w z _ z0 z1).mono ?_; rintro e w1 ⟨rfl, hb1⟩; simp only [wd]; have hz1 : w.heap.size < w1.heap.size := Nat.lt_of_lt_of_le hsz hb1.size
           have k0 := (hb1.cell (p := ⟨w.heap.size, 0, none⟩) hsz).trans c0; have k1 := (hb1.cell (p := ⟨w.heap.size, 1, none⟩) hsz).trans c1; have g0 := (hb1.frozen (p := ⟨w.heap.size, 0, none⟩) hsz).trans f0; have g1 := (hb1.frozen (p := ⟨w.heap.size, 1, none⟩) hsz).trans f1; replace hb1 := Lib.hid hb1)
        | (go_at_call 43; refine (plus_r S z _ _ _ rfl rfl).mono ?_; rintro e w2 ⟨rfl, hb2⟩; have hz2 : w.heap.size < w2.heap.size := Nat.lt_of_lt_of_le hz1 hb2.size
           have m0 := (hb2.cell (p := ⟨w.heap.size, 0, none⟩) hz1).trans k0; have m1 := (hb2.cell (p := ⟨w.heap.size, 1, none⟩) hz1).trans k1; have n0 := (hb2.frozen (p := ⟨w.heap.size, 0, none⟩) hz1).trans g0; have n1 := (hb2.frozen (p := ⟨w.heap.size, 1, none⟩) hz1).trans g1; replace hb2 := Lib.hid hb2))
      all_goals
        clear k0 k1 g0 g1 c0 c1 f0 f1 hcell
        go_wp2_with fail
        go_roundw
        case rel => exact ⟨k + 1, by omega, by go_num, by rw [hd.out]; go_simp, by rw [hd.out]; go_simp, by go_simp, by go_simp, by simpa using hz2, ((hbel.out.drew.trans ((hb1.out.mono (Nat.le_of_lt hsz)).trans (hb2.out.mono (Nat.le_of_lt hz1)))).setCell (Nat.le_refl _) _).setCell (Nat.le_refl _) _⟩
        case measure => simp [intOf]; omega
    · have hbd := sum_bd zs hz.out zs.length (Nat.le_refl _)
      have hkl : zs.take k = zs := List.take_of_length_le (by rw [hl.out]; omega)
      rw [hkl] at c0 c1
      rw [List.take_length, hl.out] at hbd
      clear hkl
      go_wp2_with fail
      refine (amount_w (sumL zs) _ (by omega) (by omega)).mono ?_
      rintro e w1 ⟨rfl, hb1⟩
      go_wp2_with fail
      go_ret2
      exact ⟨rfl, hbel.trans (hb1.mono (Nat.le_of_lt hsz))⟩
end Go.Proofs.YthocnlalahknjaaGreat
namespace Go.Proofs.YthocnlalahknjaaGreat
open Go.RowKit
set_option linter.unusedVariables false

theorem chain_trans {a b c : World} (h : Below a.heap.size a b) (k : Below b.heap.size b c) : Below a.heap.size a c := h.trans (k.mono h.size)

theorem amt_getD (zs : List Int) (h : ∀ z ∈ zs, Amt z) (i : Nat) : Amt (zs.getD i 0) := by
  by_cases hi : i < zs.length
  · rw [List.getD_eq_getElem?_getD, List.getElem?_eq_getElem hi]; exact h _ (List.getElem_mem hi)
  · rw [List.getD_eq_getElem?_getD, List.getElem?_eq_none (by omega)]; exact ⟨by decide, by decide⟩
theorem seq3 (w : World) (x y z : Int) (hx : Amt x) (hy : Amt y) (hz : Amt z) : Seq64 (w.alloc (.cells #[.int .i64 x, .int .i64 y, .int .i64 z] 2)) (some ⟨w.heap.size, 0, none⟩) 3 [x, y, z] := by
  refine ⟨rfl, amt_getD _ (by simp; exact ⟨hx, hy, hz⟩), by decide, .inr ⟨w.heap.size, 0, rfl, by simp, fun i hi => ?_⟩⟩
  rcases (by omega : i = 0 ∨ i = 1 ∨ i = 2) with rfl | rfl | rfl <;> go_simp <;> rfl
theorem seq2 (w : World) (x y : Int) (hx : Amt x) (hy : Amt y) : Seq64 (w.alloc (.cells #[.int .i64 x, .int .i64 y] 2)) (some ⟨w.heap.size, 0, none⟩) 2 [x, y] := by
  refine ⟨rfl, amt_getD _ (by simp; exact ⟨hx, hy⟩), by decide, .inr ⟨w.heap.size, 0, rfl, by simp, fun i hi => ?_⟩⟩
  rcases (by omega : i = 0 ∨ i = 1) with rfl | rfl <;> go_simp <;> rfl

end Go.Proofs.YthocnlalahknjaaGreat
