/- The contract of money's product. -/
import Derived.Test.YtbljdjgbjnhcgaaA3
namespace Go.Proofs.Ytbljdjgbjnhcgaa
open Go.RowKit
theorem mul_bd (a b : Int) (a0 : 0 ≤ a) (a1 : a ≤ 4294967295) (b0 : 0 ≤ b) (b1 : b ≤ 4294967295) : 0 ≤ a * b ∧ a * b ≤ 18446744065119617025 := by
  refine ⟨Int.mul_nonneg a0 b0, ?_⟩
  have h1 : a * b ≤ 4294967295 * b := Int.mul_le_mul_of_nonneg_right a1 b0
  omega
theorem wrap_u (a : Int) (a0 : 0 ≤ a) (a1 : a < 18446744073709551616) : IntKind.u64.wrap a = a := by rw [IntKind.wrap_u64]; omega
theorem plus_r (M N h l : Int) (w : World) (hh : h = wh N) (hl : l = wl N) :
    Calls Try.prog 40 #[.agg #[.int .u64 (wh M), .int .u64 (wl M)], .agg #[.int .u64 h, .int .u64 l]] w fun e w' => e = .returned (.agg #[.int .u64 (wh (M + N)), .int .u64 (wl (M + N))]) ∧ Below w.heap.size w w' := by
  subst hh; subst hl; exact plus_w M N w
def psum (p q r s : Int) : Nat → Int
  | 0 => 0
  | 1 => p
  | 2 => p + q * 4294967296
  | 3 => p + q * 4294967296 + r * 4294967296
  | _ => p + q * 4294967296 + r * 4294967296 + s * 18446744073709551616
theorem wh_small (p : Int) (p0 : 0 ≤ p) (p1 : p < 18446744073709551616) : 0 = wh p ∧ p = wl p := by unfold wh wl; omega
theorem wh_high (s : Int) (s0 : 0 ≤ s) (s1 : s < 18446744073709551616) : s = wh (s * 18446744073709551616) ∧ 0 = wl (s * 18446744073709551616) := by unfold wh wl; omega

theorem keep2 {W w3 : World} {o : Obj} {b off : Nat} {v : Value} (hb : Below (W.alloc o).heap.size (W.alloc o) w3) (hz : b < W.heap.size) (hc : W.cell? ⟨b, off, none⟩ = some v) (hd : W.frozen? ⟨b, off, none⟩ = false) :
    w3.cell? ⟨b, off, none⟩ = some v ∧ w3.frozen? ⟨b, off, none⟩ = false := by
  have h1 : Below W.heap.size W w3 := ((Below.refl _ _).alloc (Nat.le_refl _) o).trans (hb.mono (by simp))
  exact ⟨(h1.cell (p := ⟨b, off, none⟩) hz).trans hc, (h1.frozen (p := ⟨b, off, none⟩) hz).trans hd⟩
theorem idx0 (a0 a1 a2 a3 a4 a5 a6 a7 : Value) (w : World) : (Instr.index 75 (.agg #[a0, a1, a2, a3, a4, a5, a6, a7]) (.int .i64 0)).run Try.prog w = .ok (.agg #[a0, a1]) w := by kernel_rfl
theorem idx1 (a0 a1 a2 a3 a4 a5 a6 a7 : Value) (w : World) : (Instr.index 75 (.agg #[a0, a1, a2, a3, a4, a5, a6, a7]) (.int .i64 1)).run Try.prog w = .ok (.agg #[a2, a3]) w := by kernel_rfl
theorem idx2 (a0 a1 a2 a3 a4 a5 a6 a7 : Value) (w : World) : (Instr.index 75 (.agg #[a0, a1, a2, a3, a4, a5, a6, a7]) (.int .i64 2)).run Try.prog w = .ok (.agg #[a4, a5]) w := by kernel_rfl
theorem idx3 (a0 a1 a2 a3 a4 a5 a6 a7 : Value) (w : World) : (Instr.index 75 (.agg #[a0, a1, a2, a3, a4, a5, a6, a7]) (.int .i64 3)).run Try.prog w = .ok (.agg #[a6, a7]) w := by kernel_rfl
set_option maxRecDepth 100000 in
set_option maxHeartbeats 2000000 in
theorem product_parts (x y xh xl yh yl p q r s : Int) (w : World) (x0 : 0 ≤ x) (x1 : x < 18446744073709551616) (y0 : 0 ≤ y) (y1 : y < 18446744073709551616)
    (hxh : Hid (x / 4294967296 = xh)) (hxl : Hid (x % 4294967296 = xl)) (hyh : Hid (y / 4294967296 = yh)) (hyl : Hid (y % 4294967296 = yl))
    (hp : Hid (IntKind.u64.wrap (xl * yl) = p)) (hq : Hid (IntKind.u64.wrap (xl * yh) = q)) (hr : Hid (IntKind.u64.wrap (xh * yl) = r)) (hs : Hid (IntKind.u64.wrap (xh * yh) = s))
    (p0 : 0 ≤ p) (p1 : p < 18446744073709551616) (q0 : 0 ≤ q) (q1 : q < 18446744073709551616) (r0 : 0 ≤ r) (r1 : r < 18446744073709551616) (s0 : 0 ≤ s) (s1 : s < 18446744073709551616) :
    Calls Try.prog 43 #[.int .u64 x, .int .u64 y] w fun e w' => e = .returned (wd (p + q * 4294967296 + r * 4294967296 + s * 18446744073709551616)) ∧ Below w.heap.size w w' := by
  go_enter Try.func43, Try.ntmps43
  go_wp2_with fail
  refine (halves_any x _ x0 x1).mono ?_
  rintro e w1 ⟨rfl, rfl⟩
  rw [hxh.out, hxl.out]
  go_wp2_with fail
  refine (halves_any y _ y0 y1).mono ?_
  rintro e w1 ⟨rfl, rfl⟩
  rw [hyh.out, hyl.out]
  go_wp2_with fail
  rw [hp.out, hq.out]
  refine (halfUp_any q _ q0 q1).mono ?_
  rintro e w1 ⟨rfl, hb1⟩
  simp only [wd]
  obtain ⟨hc1, hf1⟩ := bcell hb1
  go_wp2_with fail
  rw [hr.out]
  refine (halfUp_any r _ r0 r1).mono ?_
  rintro e w2 ⟨rfl, hb2⟩
  simp only [wd]
  obtain ⟨hc2, hf2⟩ := bcell hb2
  go_wp2_with fail
  rw [hs.out]
  clear hxh hxl hyh hyl hp hq hr hs
  have hA := Lib.hid hb1
  have hB := Lib.hid hb2
  have z1 := hb1.size
  have z2 := hb2.size
  simp at z1
  have g0 : w2.cell? ⟨w.heap.size, 0, none⟩ = some (.int .u64 0) := by rw [hc2 w.heap.size 0 (by omega), hc1 w.heap.size 0 (by simp)]; go_simp
  have g1 : w2.cell? ⟨w.heap.size, 1, none⟩ = some (.int .u64 0) := by rw [hc2 w.heap.size 1 (by omega), hc1 w.heap.size 1 (by simp)]; go_simp
  have f0 : w2.frozen? ⟨w.heap.size, 0, none⟩ = false := by rw [hf2 w.heap.size 0 (by omega), hf1 w.heap.size 0 (by simp)]; go_simp
  have f1 : w2.frozen? ⟨w.heap.size, 1, none⟩ = false := by rw [hf2 w.heap.size 1 (by omega), hf1 w.heap.size 1 (by simp)]; go_simp
  clear hb1 hb2 hc1 hc2 hf1 hf2
  go_loopw [41] (fun i wr => ∃ k : Nat, k ≤ 4 ∧ i = .int .i64 k ∧ wr.cell? ⟨w2.heap.size + 1, 0, none⟩ = some (.int .u64 (wh (psum p q r s k))) ∧ wr.cell? ⟨w2.heap.size + 1, 1, none⟩ = some (.int .u64 (wl (psum p q r s k))) ∧
      wr.frozen? ⟨w2.heap.size + 1, 0, none⟩ = false ∧ wr.frozen? ⟨w2.heap.size + 1, 1, none⟩ = false ∧ w2.heap.size + 1 < wr.heap.size ∧ Below w2.heap.size w2 wr)
    (fun i _ => 4 - (intOf i).toNat)
  case atStart => exact ⟨0, by omega, rfl, by go_simp; rfl, by go_simp; rfl, by go_simp, by go_simp, by simp, ((Below.refl _ _).alloc (Nat.le_refl _) _).alloc (by simp) _⟩
  case round =>
    obtain ⟨k, hk, hi, c0, c1, d0, d1, hz, hbel0⟩ := hrel
    have hbel := Lib.hid hbel0
    clear hbel0
    rcases (by omega : k = 0 ∨ k = 1 ∨ k = 2 ∨ k = 3 ∨ k = 4) with rfl | rfl | rfl | rfl | rfl
    · replace hi : _ = Value.int .i64 0 := hi
      subst hi
      have ix := idx0
      go_wp2_with fail
      clear ix
      refine (plus_r (psum p q r s 0) (p) _ _ _ (wh_small p p0 p1).1 (wh_small p p0 p1).2).mono ?_
      rintro e w3 ⟨rfl, hb3⟩
      rw [show psum p q r s 0 + p = psum p q r s 1 from by simp only [psum] <;> omega]
      obtain ⟨c0', d0'⟩ := keep2 hb3 hz c0 d0
      obtain ⟨c1', d1'⟩ := keep2 hb3 hz c1 d1
      have hz3 := hb3.size
      simp at hz3
      have H3 := Lib.hid hb3
      clear c0 c1 d0 d1 hb3
      have hz4 : w2.heap.size + 1 < w3.heap.size := by omega
      go_wp2_with fail
      go_roundw
      case rel => exact ⟨1, by omega, rfl, by go_simp, by go_simp, by go_simp, by go_simp, by simpa using hz4, ((hbel.out.trans (((Below.refl _ _).alloc (Nat.le_refl _) _).trans (H3.out.mono (by simp)) |>.mono (by omega))).setCell (by simp) _).setCell (by simp) _⟩
      case measure => simp [intOf]
    · replace hi : _ = Value.int .i64 1 := hi
      subst hi
      have ix := idx1
      go_wp2_with fail
      clear ix
      refine (plus_r (psum p q r s 1) (q * 4294967296) _ _ _ rfl rfl).mono ?_
      rintro e w3 ⟨rfl, hb3⟩
      rw [show psum p q r s 1 + q * 4294967296 = psum p q r s 2 from by simp only [psum] <;> omega]
      obtain ⟨c0', d0'⟩ := keep2 hb3 hz c0 d0
      obtain ⟨c1', d1'⟩ := keep2 hb3 hz c1 d1
      have hz3 := hb3.size
      simp at hz3
      have H3 := Lib.hid hb3
      clear c0 c1 d0 d1 hb3
      have hz4 : w2.heap.size + 1 < w3.heap.size := by omega
      go_wp2_with fail
      go_roundw
      case rel => exact ⟨2, by omega, rfl, by go_simp, by go_simp, by go_simp, by go_simp, by simpa using hz4, ((hbel.out.trans (((Below.refl _ _).alloc (Nat.le_refl _) _).trans (H3.out.mono (by simp)) |>.mono (by omega))).setCell (by simp) _).setCell (by simp) _⟩
      case measure => simp [intOf]
    · replace hi : _ = Value.int .i64 2 := hi
      subst hi
      have ix := idx2
      go_wp2_with fail
      clear ix
      refine (plus_r (psum p q r s 2) (r * 4294967296) _ _ _ rfl rfl).mono ?_
      rintro e w3 ⟨rfl, hb3⟩
      rw [show psum p q r s 2 + r * 4294967296 = psum p q r s 3 from by simp only [psum] <;> omega]
      obtain ⟨c0', d0'⟩ := keep2 hb3 hz c0 d0
      obtain ⟨c1', d1'⟩ := keep2 hb3 hz c1 d1
      have hz3 := hb3.size
      simp at hz3
      have H3 := Lib.hid hb3
      clear c0 c1 d0 d1 hb3
      have hz4 : w2.heap.size + 1 < w3.heap.size := by omega
      go_wp2_with fail
      go_roundw
      case rel => exact ⟨3, by omega, rfl, by go_simp, by go_simp, by go_simp, by go_simp, by simpa using hz4, ((hbel.out.trans (((Below.refl _ _).alloc (Nat.le_refl _) _).trans (H3.out.mono (by simp)) |>.mono (by omega))).setCell (by simp) _).setCell (by simp) _⟩
      case measure => simp [intOf]
    · replace hi : _ = Value.int .i64 3 := hi
      subst hi
      have ix := idx3
      go_wp2_with fail
      clear ix
      refine (plus_r (psum p q r s 3) (s * 18446744073709551616) _ _ _ (wh_high s s0 s1).1 (wh_high s s0 s1).2).mono ?_
      rintro e w3 ⟨rfl, hb3⟩
      rw [show psum p q r s 3 + s * 18446744073709551616 = psum p q r s 4 from by simp only [psum] <;> omega]
      obtain ⟨c0', d0'⟩ := keep2 hb3 hz c0 d0
      obtain ⟨c1', d1'⟩ := keep2 hb3 hz c1 d1
      have hz3 := hb3.size
      simp at hz3
      have H3 := Lib.hid hb3
      clear c0 c1 d0 d1 hb3
      have hz4 : w2.heap.size + 1 < w3.heap.size := by omega
      go_wp2_with fail
      go_roundw
      case rel => exact ⟨4, by omega, rfl, by go_simp, by go_simp, by go_simp, by go_simp, by simpa using hz4, ((hbel.out.trans (((Below.refl _ _).alloc (Nat.le_refl _) _).trans (H3.out.mono (by simp)) |>.mono (by omega))).setCell (by simp) _).setCell (by simp) _⟩
      case measure => simp [intOf]
    · replace hi : _ = Value.int .i64 4 := hi
      subst hi
      have B1 : Below w.heap.size w w2 := ((Below.refl _ _).alloc (Nat.le_refl _) _).trans ((hA.out.mono (by simp)).trans (hB.out.mono (by omega)))
      have B2 := Lib.hid (B1.trans (hbel.out.mono (by omega)))
      clear B1
      obtain ⟨hx1, hx2⟩ := bcell hbel.out
      have g0' := hx1 w.heap.size 0 (by omega)
      have g1' := hx1 w.heap.size 1 (by omega)
      have f0' := hx2 w.heap.size 0 (by omega)
      have f1' := hx2 w.heap.size 1 (by omega)
      rw [g0] at g0'
      rw [g1] at g1'
      rw [f0] at f0'
      rw [f1] at f1'
      clear hx1 hx2 g0 g1 f0 f1
      go_wp2_with fail
      exact bodyPost_ret (v := wd (psum p q r s 4)) (by simp [results, Try.results43, go_sem, wd, g0', g1']) rfl ⟨rfl, (B2.out.setCell (Nat.le_refl _) _).setCell (Nat.le_refl _) _⟩

theorem split_mul (x y xh xl yh yl : Int) (hx : x = xh * 4294967296 + xl) (hy : y = yh * 4294967296 + yl) :
    xl * yl + xl * yh * 4294967296 + xh * yl * 4294967296 + xh * yh * 18446744073709551616 = x * y := by
  have e : (xh * 4294967296 + xl) * (yh * 4294967296 + yl) = (xh * yh) * 18446744073709551616 + (xh * yl) * 4294967296 + (xl * yh) * 4294967296 + xl * yl := by
    rw [Int.add_mul, Int.mul_add, Int.mul_add]
    have e1 : xh * 4294967296 * (yh * 4294967296) = xh * yh * 18446744073709551616 := by
      rw [Int.mul_assoc, Int.mul_left_comm 4294967296 yh, ← Int.mul_assoc]; rfl
    have e2 : xh * 4294967296 * yl = xh * yl * 4294967296 := by rw [Int.mul_assoc, Int.mul_comm 4294967296 yl, ← Int.mul_assoc]
    have e3 : xl * (yh * 4294967296) = xl * yh * 4294967296 := by rw [← Int.mul_assoc]
    rw [e1, e2, e3]
    omega
  rw [hx, hy, e]
  omega
theorem product_any (x y : Int) (w : World) (x0 : 0 ≤ x) (x1 : x < 18446744073709551616) (y0 : 0 ≤ y) (y1 : y < 18446744073709551616) :
    Calls Try.prog 43 #[.int .u64 x, .int .u64 y] w fun e w' => e = .returned (wd (x * y)) ∧ Below w.heap.size w w' := by
  have b1 := mul_bd (x % 4294967296) (y % 4294967296) (by omega) (by omega) (by omega) (by omega)
  have b2 := mul_bd (x % 4294967296) (y / 4294967296) (by omega) (by omega) (by omega) (by omega)
  have b3 := mul_bd (x / 4294967296) (y % 4294967296) (by omega) (by omega) (by omega) (by omega)
  have b4 := mul_bd (x / 4294967296) (y / 4294967296) (by omega) (by omega) (by omega) (by omega)
  have key := split_mul x y (x / 4294967296) (x % 4294967296) (y / 4294967296) (y % 4294967296) (by omega) (by omega)
  rw [← key]
  generalize hp : x % 4294967296 * (y % 4294967296) = p at *
  generalize hq : x % 4294967296 * (y / 4294967296) = q at *
  generalize hr : x / 4294967296 * (y % 4294967296) = r at *
  generalize hs : x / 4294967296 * (y / 4294967296) = s at *
  exact product_parts x y _ _ _ _ p q r s w x0 x1 y0 y1 rfl rfl rfl rfl
    (by show IntKind.u64.wrap _ = p; rw [hp]; exact wrap_u p (by omega) (by omega)) (by show IntKind.u64.wrap _ = q; rw [hq]; exact wrap_u q (by omega) (by omega))
    (by show IntKind.u64.wrap _ = r; rw [hr]; exact wrap_u r (by omega) (by omega)) (by show IntKind.u64.wrap _ = s; rw [hs]; exact wrap_u s (by omega) (by omega))
    (by omega) (by omega) (by omega) (by omega) (by omega) (by omega) (by omega) (by omega)
end Go.Proofs.Ytbljdjgbjnhcgaa
