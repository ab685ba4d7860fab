/- The contracts of the reference's Plain, Change and Worth. -/
import Derived.Test.YtbljdjgbjnhcgaaMoneyParts
import Derived.Test.YtbljdjgbjnhcgaaQ3
import Derived.Test.YtbljdjgbjnhcgaaP7
import Derived.Deep.DeepCutAuto
namespace Go.Proofs.Ytbljdjgbjnhcgaa
open Go.RowKit
set_option linter.unusedVariables false

set_option maxHeartbeats 1000000 in
theorem plainR_no (p : Option Addr) (len cap : Nat) (cur a : Int) (w : World) (h : ¬ (0 ≤ cur ∧ cur < len)) :
    Calls Try.prog 20 #[.slice p len cap, .int .i64 cur, .int .i64 a] w fun e w' => e = .returned (.tuple #[.int .i64 0, .int .i64 1]) ∧ w = w' := by
  by_cases h0 : cur < 0
  · have z0 : decide (cur < 0) = true := by simpa using h0
    clear h
    go_enter Try.func20, Try.ntmps20
    go_wp2_with fail
    go_ret2
    exact ⟨rfl, rfl⟩
  · have z0 : decide (cur < 0) = false := by simpa using h0
    have z1 : decide ((len : Int) ≤ cur) = true := by simp; omega
    clear h
    go_enter Try.func20, Try.ntmps20
    go_wp2_with fail
    go_ret2
    exact ⟨rfl, rfl⟩
set_option maxHeartbeats 1000000 in
theorem worthR_no (p : Option Addr) (len cap : Nat) (cur a : Int) (w : World) (h : ¬ (0 ≤ cur ∧ cur < len)) :
    Calls Try.prog 18 #[.slice p len cap, .int .i64 cur, .int .i64 a] w fun e w' => e = .returned (.tuple #[.int .i64 0, .int .i64 1]) ∧ w = w' := by
  by_cases h0 : cur < 0
  · have z0 : decide (cur < 0) = true := by simpa using h0
    clear h
    go_enter Try.func18, Try.ntmps18
    go_wp2_with fail
    go_ret2
    exact ⟨rfl, rfl⟩
  · have z0 : decide (cur < 0) = false := by simpa using h0
    have z1 : decide ((len : Int) ≤ cur) = true := by simp; omega
    clear h
    go_enter Try.func18, Try.ntmps18
    go_wp2_with fail
    go_ret2
    exact ⟨rfl, rfl⟩
set_option maxHeartbeats 1000000 in
theorem changeR_no (p : Option Addr) (len cap : Nat) (cur cur2 a : Int) (up : Bool) (w : World) (h : ¬ ((0 ≤ cur ∧ cur < len) ∧ (0 ≤ cur2 ∧ cur2 < len))) :
    Calls Try.prog 22 #[.slice p len cap, .int .i64 cur, .int .i64 cur2, .int .i64 a, .bool up] w fun e w' => e = .returned (.tuple #[.int .i64 0, .int .i64 1]) ∧ w = w' := by
  by_cases h0 : cur < 0
  · have z0 : decide (cur < 0) = true := by simpa using h0
    clear h
    go_enter Try.func22, Try.ntmps22
    go_wp2_with fail
    go_ret2
    exact ⟨rfl, rfl⟩
  · have z0 : decide (cur < 0) = false := by simpa using h0
    by_cases h1 : (len : Int) ≤ cur
    · have z1 : decide ((len : Int) ≤ cur) = true := by simpa using h1
      clear h
      go_enter Try.func22, Try.ntmps22
      go_wp2_with fail
      go_ret2
      exact ⟨rfl, rfl⟩
    · have z1 : decide ((len : Int) ≤ cur) = false := by simpa using h1
      by_cases h2 : cur2 < 0
      · have z2 : decide (cur2 < 0) = true := by simpa using h2
        clear h
        go_enter Try.func22, Try.ntmps22
        go_wp2_with fail
        go_ret2
        exact ⟨rfl, rfl⟩
      · have z2 : decide (cur2 < 0) = false := by simpa using h2
        have z3 : decide ((len : Int) ≤ cur2) = true := by simp; omega
        clear h
        go_enter Try.func22, Try.ntmps22
        go_wp2_with fail
        go_ret2
        exact ⟨rfl, rfl⟩

set_option maxHeartbeats 1000000 in
set_option maxRecDepth 100000 in
theorem plainR_any (p : Option Addr) (len cap : Nat) (cs : List Cur) (k : Nat) (a : Int) (w : World) (hs : Tab w p len cs) (hk : k < len) (ha : Amt a) (ho : oobB (cAt cs k) = false) :
    Calls Try.prog 20 #[.slice p len cap, .int .i64 k, .int .i64 a] w fun e w' => e = .returned (.tuple #[.int .i64 (fitV (plainT (cAt cs k) a)), .int .i64 (fitE (plainT (cAt cs k) a))]) ∧ Below w.heap.size w w' := by
  obtain ⟨hl, hz, hm, hcells⟩ := hs
  obtain ⟨b, off, rfl, hblt, hc⟩ := hcells.resolve_left (by omega)
  obtain ⟨c0, c1, c2⟩ := hc k hk
  obtain ⟨r0, r1, u0, u1⟩ := oob_no ho
  have hfin : plainT (cAt cs k) a = muldiv a (cAt cs k).rate 10000 false := rfl
  rw [hfin]
  clear hfin hc hl hz hcells ho
  generalize (cAt cs k).rate = r at *
  generalize (cAt cs k).cut = h at *
  have hcon := fun w => mulDivR_any a r 10000 false w ha ⟨by omega, by omega⟩ (by omega) (by omega)
  replace hcon := Lib.hid hcon
  have z0 : decide ((k : Int) < 0) = false := by simp
  have z1 : decide ((len : Int) ≤ (k : Int)) = false := by simp; omega
  go_enter Try.func20, Try.ntmps20
  go_wp2_with fail
  refine (hcon.out _).mono ?_
  rintro e w1 ⟨rfl, hb1⟩
  rw [show fitRV (divR (a * r) 10000 false) = fitV (muldiv a r 10000 false) from rfl, show fitRE (divR (a * r) 10000 false) = fitE (muldiv a r 10000 false) from rfl]
  replace hb1 := Lib.hid hb1
  go_wp2_with fail
  go_ret2
  exact ⟨rfl, hb1.out⟩

set_option maxHeartbeats 1000000 in
set_option maxRecDepth 100000 in
theorem changeR_any (p : Option Addr) (len cap : Nat) (cs : List Cur) (k j : Nat) (a : Int) (up : Bool) (w : World) (hs : Tab w p len cs) (hk : k < len) (hj : j < len) (ha : Amt a) (ho : oobB (cAt cs k) = false) (ho' : oobB (cAt cs j) = false) :
    Calls Try.prog 22 #[.slice p len cap, .int .i64 k, .int .i64 j, .int .i64 a, .bool up] w fun e w' => e = .returned (.tuple #[.int .i64 (fitV (changeT (cAt cs k) (cAt cs j) a up)), .int .i64 (fitE (changeT (cAt cs k) (cAt cs j) a up))]) ∧ Below w.heap.size w w' := by
  obtain ⟨hl, hz, hm, hcells⟩ := hs
  obtain ⟨b, off, rfl, hblt, hc⟩ := hcells.resolve_left (by omega)
  obtain ⟨_, c1, _⟩ := hc k hk
  obtain ⟨_, d1, _⟩ := hc j hj
  obtain ⟨r0, r1, _, _⟩ := oob_no ho
  obtain ⟨q0, q1, _, _⟩ := oob_no ho'
  have hfin : changeT (cAt cs k) (cAt cs j) a up = muldiv a (cAt cs k).rate (cAt cs j).rate up := rfl
  rw [hfin]
  clear hfin hc hl hz hcells ho ho'
  generalize (cAt cs k).rate = r at *
  generalize (cAt cs j).rate = q at *
  have hcon := fun w => mulDivR_any a r q up w ha ⟨by omega, by omega⟩ (by omega) (by omega)
  rw [show fitRV (divR (a * r) q up) = fitV (muldiv a r q up) from rfl, show fitRE (divR (a * r) q up) = fitE (muldiv a r q up) from rfl] at hcon
  replace hcon := Lib.hid hcon
  have z0 : decide ((k : Int) < 0) = false := by simp
  have z1 : decide ((len : Int) ≤ (k : Int)) = false := by simp; omega
  have z2 : decide ((j : Int) < 0) = false := by simp
  have z3 : decide ((len : Int) ≤ (j : Int)) = false := by simp; omega
  have y0 : (0 : Int) ≤ (k : Int) := by omega
  have y1 : (k : Int) < (len : Int) := by omega
  have y2 : (0 : Int) ≤ (j : Int) := by omega
  have y3 : (j : Int) < (len : Int) := by omega
  go_enter Try.func22, Try.ntmps22
  go_wp2_with fail
  go_region_held3 (fun w' => w'.cell? ⟨b, off + k * 3 + 1, none⟩ = some (.int .i64 r) ∧ w'.cell? ⟨b, off + j * 3 + 1, none⟩ = some (.int .i64 q)) (first | go_keep | exact ⟨(hb1.out.cell (p := ⟨b, off + k * 3 + 1, none⟩) hblt).trans c1, (hb1.out.cell (p := ⟨b, off + j * 3 + 1, none⟩) hblt).trans d1⟩)
    ((go_at_call 38; (with_reducible refine (hcon.out _).mono ?_); rintro e w1 ⟨rfl, hb1⟩; replace hb1 := Lib.hid hb1))
  go_wp2_with fail
  go_ret2
  exact ⟨rfl, ((Below.refl w.heap.size w).drew).trans hb1.out⟩
end Go.Proofs.Ytbljdjgbjnhcgaa
