/- The contracts of worth's inCurrencies, post and If. -/
import Derived.Test.YtllhpdohahoelaaWE
import Derived.Test.YtllhpdohahoelaaNX
namespace Go.Proofs.Ytllhpdohahoelaa
open Go.RowKit
set_option linter.unusedVariables false

/-- inCurrencies' way -/
structure KSt (w : World) (nc : Nat) (ps : List Pst) (k : Nat) (wr : World) : Prop where
  known : ∀ q ∈ ps.take k, 0 ≤ q.c ∧ q.c < nc
  blw : Below w.heap.size w wr
theorem KSt.next {w wr wr' : World} {nc k : Nat} {ps : List Pst} {q : Pst} (h : KSt w nc ps k wr) (hq : ps[k]? = some q) (hc : 0 ≤ q.c ∧ q.c < nc) (hb : Below w.heap.size w wr') : KSt w nc ps (k + 1) wr' := by
  refine ⟨fun y hy => ?_, hb⟩
  rw [List.take_add_one, hq] at hy
  rcases List.mem_append.1 hy with hy | hy
  · exact h.known y hy
  · obtain rfl := List.mem_singleton.1 hy; exact hc

set_option maxHeartbeats 4000000 in
set_option maxRecDepth 100000 in
theorem inCur_any {P : Nat → Prop} {b lb gT cT gM cM : Nat} {x : WM} {V : Nat → SV} (p : Option Addr) (len cap : Nat) (ps : List Pst) (w : World) (h : WPv P w b lb x V gT cT gM cM) (hrow : PRow w p len ps) (hlen : len ≤ 1000) :
    Calls Try.prog 41 #[.pointer (some ⟨b, 0, none⟩), .slice p len cap] w fun e w' => e = .returned (.bool (knownC x.cs.length ps)) ∧ Below w.heap.size w w' := by
  have hpl := hrow.1
  have c0 := h.c0
  have hbl := obj_lt h.obj
  have h8 := h.n8
  have hS0 : KSt w x.cs.length ps 0 w := ⟨fun q hq => by simp at hq, Below.refl _ _⟩
  replace hS0 := Lib.hid hS0
  replace h := Lib.hid h
  replace hrow := Lib.hid hrow
  go_enter Try.func41, Try.ntmps41
  go_upto_region 2 with (fail)
  go_loopw [9] (fun i wr => ∃ k : Nat, k ≤ len ∧ i = .int .i64 (k : Int) ∧ Hid (KSt w x.cs.length ps k wr)) (fun i _ => len - (intOf i).toNat)
  case atStart => exact ⟨0, by omega, rfl, hS0⟩
  case round =>
    obtain ⟨k, hk, rfl, hS⟩ := hrel
    by_cases hkl : k < len
    · have hkz : (k : Int) < (len : Int) := by omega
      have hT := hS.out
      have hws := hT.blw.size
      obtain ⟨_, hin, hrw⟩ := hrow.out
      obtain ⟨rb, off, rfl, hbs, hcells⟩ := hrw.resolve_left (by omega)
      obtain ⟨y, hq⟩ : ∃ y, ps[k]? = some y := ⟨ps[k], List.getElem?_eq_getElem (by omega)⟩
      obtain ⟨q0, q1, q2⟩ := hcells k y hq
      replace q0 := (hT.blw.cell (p := ⟨rb, off + k * 3, none⟩) hbs).trans q0
      replace q1 := (hT.blw.cell (p := ⟨rb, off + k * 3 + 1, none⟩) hbs).trans q1
      replace q2 := (hT.blw.cell (p := ⟨rb, off + k * 3 + 2, none⟩) hbs).trans q2
      have hbx := heap_alloc_new wr (.cells #[.int .i64 y.m, .int .i64 y.c, .int .i64 y.a] 65)
      have hB1 : Below w.heap.size w (wr.alloc (.cells #[.int .i64 y.m, .int .i64 y.c, .int .i64 y.a] 65)) := hT.blw.alloc hws _
      replace hcells := Lib.hid hcells
      replace hin := Lib.hid hin
      replace hrw := Lib.hid hrw
      replace hT := Lib.hid hT
      replace hq := Lib.hid hq
      generalize hv1 : wr.alloc (.cells #[.int .i64 y.m, .int .i64 y.c, .int .i64 y.a] 65) = v1 at *
      have d1 : v1.cell? ⟨wr.heap.size, 1, none⟩ = some (.int .i64 y.c) := obj_cell hbx rfl
      have hb0 : v1.cell? ⟨b, 0, none⟩ = some (.slice (some ⟨gT, 0, none⟩) x.cs.length cT) := (hB1.cell (p := ⟨b, 0, none⟩) hbl).trans c0
      replace hbx := Lib.hid hbx
      replace hv1 := Lib.hid hv1
      replace hB1 := Lib.hid hB1
      go_upto_region 4 with (fail)
      change Code.wp _ _ _ _ (wr.alloc (.cells #[.int .i64 y.m, .int .i64 y.c, .int .i64 y.a] 65))
      rw [hv1.out]
      clear q0 q1 q2
      by_cases hneg : y.c < 0
      · have hd : decide (y.c < 0) = true := by simpa using hneg
        go_quiet (fail)
        go_wp2_with fail
        go_ret
        exact ⟨retL_bool (known_no (List.mem_of_getElem? hq.out) (by omega)).symm, below_drewN hB1.out _⟩
      · have hd : decide (y.c < 0) = false := by simpa using hneg
        by_cases hge : (x.cs.length : Int) ≤ y.c
        · have hd2 : decide (y.c ≥ (x.cs.length : Int)) = true := by simpa using hge
          go_quiet (fail)
          go_wp2_with fail
          go_ret
          exact ⟨retL_bool (known_no (List.mem_of_getElem? hq.out) (by omega)).symm, below_drewN hB1.out _⟩
        · have hd2 : decide (y.c ≥ (x.cs.length : Int)) = false := by simpa using hge
          have hnx := fun n => hT.out.next hq.out (show 0 ≤ y.c ∧ y.c < x.cs.length by omega) (below_drewN hB1.out n)
          replace hnx := Lib.hid hnx
          go_quiet (fail)
          go_wp2_with fail
          go_roundw
          case rel => exact ⟨k + 1, by omega, by go_num, hnx.out _⟩
          case measure => simp [intOf]; omega
    · obtain rfl : k = len := by omega
      have hkz : ¬ (k : Int) < (k : Int) := by omega
      have hT := hS.out
      have hk2 : ∀ q ∈ ps, 0 ≤ q.c ∧ q.c < x.cs.length := fun q hq => hT.known q (by rw [List.take_of_length_le (by omega)]; exact hq)
      replace hk2 := Lib.hid hk2
      replace hT := Lib.hid hT
      go_wp2_with fail
      go_ret
      exact ⟨retL_bool (known_yes hk2.out).symm, hT.out.blw⟩

set_option maxHeartbeats 1000000 in
theorem post1_any (p : Nat) (f : Nat → Int) (n s : Int × Int) (c : Nat) (a : Int) (w : World) (h : B12 w p f n s) (hc : c < 8) (hf : In64 (f c)) (ha : In64 a) :
    Calls Try.prog 42 #[.pointer (some ⟨p, 0, none⟩), .int .i64 (c : Int), .int .i64 a] w fun e w' => e = .returned (.int .i64 (fitE (f c + a))) ∧ B12 w' p (if In64 (f c + a) then upd f c (f c + a) else f) n s ∧ Kp (fun j => j = p) w w' := by
  have hA := add_any (f c) a w hf.1 hf.2 ha.1 ha.2
  have hx : w.cell? ⟨p, c, none⟩ = some (.int .i64 (f c)) := obj_cell h (s12_get f n s hc)
  have hcz : (c : Int) < 8 := by omega
  have hl := obj_lt h
  by_cases hI : In64 (f c + a)
  · rw [(fitE_in hI).1, (fitE_in hI).2] at hA
    rw [if_pos hI, (fitE_in hI).2]
    generalize f c + a = y at *
    replace hA := Lib.hid hA
    replace h := Lib.hid h
    replace hI := Lib.hid hI
    replace hf := Lib.hid hf
    go_enter Try.func42, Try.ntmps42
    go_upto_region 3 with (first | (go_at_call 67; (with_reducible refine hA.out.mono ?_); rintro e w1 ⟨rfl, hb1⟩))
    have h1 : B12 w1 p f n s := (hb1.block _ hl).trans h.out
    have x1 : w1.cell? ⟨p, c, none⟩ = some (.int .i64 (f c)) := obj_cell h1 (s12_get f n s hc)
    have hz := obj_free h1
    have h2 : B12 (w1.setCell ⟨p, c, none⟩ (.int .i64 y)) p (upd f c y) n s := by
      have := obj_set h1 c (.int .i64 y)
      unfold B12
      rw [this]
      rcases lt8 hc with rfl | rfl | rfl | rfl | rfl | rfl | rfl | rfl <;> rfl
    replace hb1 := Lib.hid hb1
    replace h1 := Lib.hid h1
    replace h2 := Lib.hid h2
    go_wp2_with fail
    go_ret
    exact ⟨rfl, h2.out, (Kp.of_below (F := fun j => j = p) hb1.out).setCell (p := ⟨p, c, none⟩) (.inl rfl) _⟩
  · rw [(fitE_out hI)] at hA
    rw [if_neg hI, fitE_out hI]
    generalize fitV (f c + a) = y at *
    generalize f c + a = y2 at *
    replace hA := Lib.hid hA
    replace h := Lib.hid h
    replace hI := Lib.hid hI
    replace hf := Lib.hid hf
    go_enter Try.func42, Try.ntmps42
    go_wp2_with (first | (go_at_call 67; (with_reducible refine hA.out.mono ?_); rintro e w1 ⟨rfl, hb1⟩; replace hb1 := Lib.hid hb1))
    go_ret
    exact ⟨rfl, (hb1.out.block _ hl).trans h.out, Kp.of_below hb1.out⟩
end Go.Proofs.Ytllhpdohahoelaa
