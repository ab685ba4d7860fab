/- The contracts of a file's methods: size, told, makeSure, cut, crash, lay. -/
import Derived.Test.YtidofjjghbhaaaaE1
namespace Go.Proofs.Ytidofjjghbhaaaa
open Go.RowKit
set_option linter.unusedVariables false

set_option maxHeartbeats 1000000 in
set_option maxRecDepth 100000 in
theorem csize_any (b o : Nat) (p : Option Addr) (n cap : Nat) (w : World) (h0 : w.cell? ⟨b, o, none⟩ = some (.slice p n cap)) :
    Calls Try.prog 73 #[.pointer (some ⟨b, o, none⟩)] w fun e w' => e = .returned (.int .i64 (n : Nat)) ∧ w = w' := by
  go_enter Try.func73, Try.ntmps73
  go_wp2_with fail
  go_ret
  exact ⟨rfl, rfl⟩

set_option maxHeartbeats 1000000 in
set_option maxRecDepth 100000 in
theorem told_any (b o : Nat) (v : Value) (l : List UInt8) (w : World) (h0 : w.cell? ⟨b, o, none⟩ = some v) (hr : Row w v l) :
    Calls Try.prog 80 #[.pointer (some ⟨b, o, none⟩)] w fun e w' => e = .returned (sv l) ∧ w = w' := by
  have ht := hr.text
  obtain ⟨p, cap, rfl, hc, _⟩ := hr.shape
  clear hr
  generalize hn : l.length = n at *
  replace hn := Lib.hid hn
  go_enter Try.func80, Try.ntmps80
  go_wp2_with fail
  go_ret
  exact ⟨rfl, rfl⟩

set_option maxHeartbeats 1000000 in
set_option maxRecDepth 100000 in
theorem sure_any (b o : Nat) (p : Option Addr) (n cap : Nat) (u : Value) (w : World) (h0 : w.cell? ⟨b, o, none⟩ = some (.slice p n cap)) (h1 : w.cell? ⟨b, o + 1, none⟩ = some u) (hz : w.frozen? ⟨b, o + 1, none⟩ = false) :
    Calls Try.prog 39 #[.pointer (some ⟨b, o, none⟩)] w fun e w' => e = .returned (.tuple #[]) ∧ w' = w.setCell ⟨b, o + 1, none⟩ (.int .i64 (n : Nat)) := by
  have hc := csize_any b o p n cap w h0
  replace hc := Lib.hid hc
  go_enter Try.func39, Try.ntmps39
  go_wp2_with (go_at_call 73; refine hc.out.mono ?_; rintro e w' ⟨rfl, rfl⟩)
  go_end0
  exact ⟨rfl, rfl⟩

theorem setCell_twice (w : World) (a : Addr) (u v : Value) : (w.setCell a u).setCell a v = w.setCell a v := by
  unfold World.setCell
  congr 1
  apply Array.ext_getElem?
  intro i
  simp only [Array.getElem?_modify]
  by_cases h : a.block = i
  · simp only [h, if_true]
    cases w.heap[i]? with
    | none => rfl
    | some x =>
      cases x <;> simp
      cases a.spot <;> simp
  · simp only [h, if_false]
theorem min2_run (x y : Nat) (w : World) : (Builtin.min_ #[3, 3] 3 #[.int .i64 (x : Int), .int .i64 (y : Int)]).run Try.prog w = .ok (.int .i64 ((min x y : Nat) : Int)) w := by
  have e : (if (y : Int) < (x : Int) then (y : Int) else x) = ((min x y : Nat) : Int) := by split <;> omega
  rw [← e]
  simp [Builtin.min_, Builtin.min2]
theorem max2_run (x y : Int) (w : World) : (Builtin.max_ #[3, 3] 3 #[.int .i64 x, .int .i64 y]).run Try.prog w = .ok (.int .i64 (max x y)) w := by
  have e : (if x < y then y else x) = max x y := by split <;> omega
  rw [← e]
  simp [Builtin.max_, Builtin.max2]

set_option maxHeartbeats 1000000 in
set_option maxRecDepth 100000 in
theorem cutc_any (b o : Nat) (p : Option Addr) (n cap m s : Nat) (w : World) (h0 : w.cell? ⟨b, o, none⟩ = some (.slice p n cap)) (h1 : w.cell? ⟨b, o + 1, none⟩ = some (.int .i64 (s : Nat)))
    (hz0 : w.frozen? ⟨b, o, none⟩ = false) (hz : w.frozen? ⟨b, o + 1, none⟩ = false) (hm : m ≤ n) (hn : n ≤ cap) (hp : p = none → cap = 0) :
    Calls Try.prog 81 #[.pointer (some ⟨b, o, none⟩), .int .i64 (m : Nat)] w fun e w' => e = .returned (.tuple #[]) ∧ w' = (w.setCell ⟨b, o, none⟩ (.slice p m cap)).setCell ⟨b, o + 1, none⟩ (.int .i64 (min s m : Nat)) := by
  have hmc : (m : Int) ≤ (cap : Int) := by omega
  cases p with
  | none =>
    obtain rfl := hp rfl
    obtain rfl : m = 0 := by omega
    obtain rfl : n = 0 := by omega
    have hmin : ∀ w, (Builtin.min_ #[3, 3] 3 #[.int .i64 (s : Int), .int .i64 0]).run Try.prog w = .ok (.int .i64 0) w := fun w => by
      have h := min2_run s 0 w
      rw [show min s 0 = 0 by omega] at h
      exact h
    rw [show min s 0 = 0 by omega]
    go_enter Try.func81, Try.ntmps81
    go_wp2_with fail
    go_end0
    exact ⟨rfl, rfl⟩
  | some a =>
    have hmin := fun w => min2_run s m w
    go_enter Try.func81, Try.ntmps81
    go_wp2_with fail
    go_end0
    exact ⟨rfl, rfl⟩

set_option maxHeartbeats 1000000 in
set_option maxRecDepth 100000 in
theorem crashc_any (b o : Nat) (p : Option Addr) (n cap s : Nat) (x : Int) (w : World) (h0 : w.cell? ⟨b, o, none⟩ = some (.slice p n cap)) (h1 : w.cell? ⟨b, o + 1, none⟩ = some (.int .i64 (s : Nat)))
    (hz0 : w.frozen? ⟨b, o, none⟩ = false) (hz : w.frozen? ⟨b, o + 1, none⟩ = false) (hs : s ≤ n) (hn : n ≤ cap) (hn2 : n ≤ 16777216) (hp : p = none → cap = 0) (hx : x ≤ 9223372036854775807) :
    Calls Try.prog 52 #[.pointer (some ⟨b, o, none⟩), .int .i64 x] w fun e w' => e = .returned (.tuple #[]) ∧ ∃ d, w' = ((w.setCell ⟨b, o, none⟩ (.slice p (s + min (max x 0).toNat (n - s)) cap)).setCell ⟨b, o + 1, none⟩ (.int .i64 (s + min (max x 0).toNat (n - s) : Nat))).drewN d := by
  have hmx := fun w => max2_run x 0 w
  obtain ⟨q, hq⟩ : ∃ q : Nat, max x 0 = (q : Int) := ⟨(max x 0).toNat, by omega⟩
  rw [hq] at hmx ⊢
  have hmin := fun w => min2_run q (n - s) w
  have e1 : IntKind.i64.wrap ((n : Int) - (s : Int)) = ((n - s : Nat) : Int) := by rw [IntKind.wrap_i64]; omega
  simp only [Int.toNat_natCast]
  have hm1 : s + min q (n - s) ≤ n := by omega
  have hm2 : (s : Int) + ((min q (n - s) : Nat) : Int) = ((s + min q (n - s) : Nat) : Int) := by omega
  have hm3 : s ≤ s + min q (n - s) := by omega
  generalize min q (n - s) = t at *
  generalize n - s = r at *
  have hS := fun w h => csize_any b o p n cap w h
  have hC := fun w h0 h1 z0 z1 => cutc_any b o p n cap (s + t) s w h0 h1 z0 z1 hm1 hn hp
  have hM := fun w u h0 h1 z => sure_any b o p (s + t) cap u w h0 h1 z
  replace hS := Lib.hid hS
  replace hC := Lib.hid hC
  replace hM := Lib.hid hM
  replace hq := Lib.hid hq
  replace hm2 := Lib.hid hm2
  go_enter Try.func52, Try.ntmps52
  go_wp2_with fail
  have h0' : w.drew.cell? ⟨b, o, none⟩ = some (.slice p n cap) := h0
  have h1' : w.drew.cell? ⟨b, o + 1, none⟩ = some (.int .i64 (s : Nat)) := h1
  have hms : min s (s + t) = s := by omega
  have g0 : ((w.setCell ⟨b, o, none⟩ (.slice p (s + t) cap)).setCell ⟨b, o + 1, none⟩ (.int .i64 (s : Nat))).drew.cell? ⟨b, o, none⟩ = some (.slice p (s + t) cap) := by
    rw [World.cell?_drew, World.cell?_setCell_other _ _ _ _ (by simp)]; exact World.cell?_setCell_same _ _ _ h0
  have g1 : ((w.setCell ⟨b, o, none⟩ (.slice p (s + t) cap)).setCell ⟨b, o + 1, none⟩ (.int .i64 (s : Nat))).drew.cell? ⟨b, o + 1, none⟩ = some (.int .i64 (s : Nat)) :=
    World.cell?_setCell_same (u := .int .i64 (s : Nat)) _ _ _ (by rw [World.cell?_setCell_other _ _ _ _ (by simp)]; exact h1)
  have hM' := hM.out _ _ g0 g1 (by rw [World.frozen?_drew, World.frozen?_setCell, World.frozen?_setCell]; exact hz)
  have hC' := hC.out _ h0' h1' (by rw [World.frozen?_drew]; exact hz0) (by rw [World.frozen?_drew]; exact hz)
  rw [hms] at hC'
  have hsame : ∀ u, (((w.setCell ⟨b, o, none⟩ (.slice p (s + t) cap)).setCell ⟨b, o + 1, none⟩ (.int .i64 (s : Nat))).drew.setCell ⟨b, o + 1, none⟩ u) = ((w.setCell ⟨b, o, none⟩ (.slice p (s + t) cap)).setCell ⟨b, o + 1, none⟩ u).drewN 1 := by
    intro u
    rw [World.setCell_drew, setCell_twice]
    rfl
  replace hM' := Lib.hid hM'
  replace hC' := Lib.hid hC'
  replace hsame := Lib.hid hsame
  replace hms := Lib.hid hms
  clear g0 g1 h0' h1'
  go_region_held3 (fun w' => w'.cell? ⟨b, o + 1, none⟩ = some (.int .i64 (s : Nat)) ∧ w'.cell? ⟨b, o, none⟩ = some (.slice p n cap)) (first | exact ⟨h1, h0⟩ | exact hHeld)
    (first
      | (go_at_call 73; (with_reducible refine (hS.out _ (by rw [World.cell?_drew]; exact h0)).mono ?_); rintro e w' ⟨rfl, rfl⟩))
  all_goals
    go_wp2_with fail
    rw [hm2.out]
    with_reducible refine hC'.out.mono ?_
    rintro e w' ⟨rfl, rfl⟩
    go_wp2_with fail
    with_reducible refine hM'.out.mono ?_
    rintro e w' ⟨rfl, rfl⟩
    go_wp2_with fail
    go_end0
    exact ⟨rfl, 1, hsame.out _⟩
end Go.Proofs.Ytidofjjghbhaaaa
