/- The contract of Behind, whatever comes; the contracts of mayBe and tooMany. -/
import Derived.Test.YthocnlalahknjaaGreatQPH
namespace Go.Proofs.YthocnlalahknjaaGreat.Dd
open Go.RowKit Go.Maps
set_option linter.unusedVariables false

/-- what Behind hands back -/
def BehOut (rows : List (List Int)) (now : Int) (l : List Du) (w w' : World) (e : Ending) : Prop :=
  (4096 < l.length ∧ e = .returned (.tuple #[.slice none 0 0, .int .i64 4])) ∨
  (l.length ≤ 4096 ∧ l.any Du.wrong = true ∧ e = .returned (.tuple #[.slice none 0 0, .int .i64 1])) ∨
  (l.length ≤ 4096 ∧ l.any Du.wrong = false ∧ ∃ L : List Du, L.Perm (ofNow l now) ∧ InOrder byAcc L ∧
    ((∃ out u, behL rows now L.length L = some out ∧ e = .returned (.tuple #[u, .int .i64 0]) ∧ UR w w' u out) ∨ (behL rows now L.length L = none ∧ e = .returned (.tuple #[.slice none 0 0, .int .i64 3]))))
/-- every number of a due is one of 64 bits -/
def DuIn (d : Du) : Prop := In64 d.m ∧ In64 d.c ∧ In64 d.t ∧ In64 d.n
set_option maxHeartbeats 1000000 in
set_option maxRecDepth 100000 in
theorem behind_any (v pv : Value) (l : List Du) (rows : List (List Int)) (now : Int) (w : World) (h : USeq w v l) (hlen : l.length ≤ 4611686018427387904) (hin : ∀ d ∈ l, DuIn d) (hp : NSeq w pv rows) (hrl : rows.length ≤ 4611686018427387904) :
    Calls Tryz.prog 15 #[v, pv, .int .i64 now] w fun e w' => Below w.heap.size w w' ∧ BehOut rows now l w w' e := by
  by_cases h1 : 4096 < l.length
  · obtain ⟨a, cap, rfl, -⟩ := h
    have z : (4096 : Int) < (l.length : Int) := by omega
    go_enter Tryz.func15, Tryz.ntmps15
    go_wp2_with fail
    go_ret2
    exact ⟨Below.refl _ _, .inl ⟨h1, rfl⟩⟩
  · cases hw : l.any Du.wrong with
    | true =>
      have hc := anyWrong v l w h (by omega)
      rw [hw] at hc
      obtain ⟨a, cap, rfl, -⟩ := h
      have z : ¬ (4096 : Int) < (l.length : Int) := by omega
      replace hc := Lib.hid hc
      go_enter Tryz.func15, Tryz.ntmps15
      go_wp2_with (go_at_call 38; (with_reducible refine hc.out.mono ?_); rintro e w1 ⟨rfl, hb1⟩; replace hb1 := Lib.hid hb1)
      go_ret2
      exact ⟨hb1.out, .inr (.inl ⟨by omega, hw, rfl⟩)⟩
    | false =>
      have hok : ∀ d ∈ l, DuOk d := fun d hd => by
        have h2 : d.wrong = false := by
          have := List.any_eq_false.1 hw d hd
          simpa using this
        unfold Du.wrong at h2
        simp only [Bool.or_eq_false_iff, decide_eq_false_iff_not] at h2
        obtain ⟨⟨a1, a2⟩, a3⟩ := h2
        obtain ⟨b1, b2, b3, b4⟩ := hin d hd
        unfold In64 at *
        exact ⟨by omega, b1.2, by omega, b2.2, by omega, b4.2⟩
      refine (behind_loop v pv l rows now w h (by omega) hw hok hp hrl).mono ?_
      rintro e w' ⟨hb, r⟩
      exact ⟨hb, .inr (.inr ⟨by omega, hw, r⟩)⟩

/-- do ticks rise, from behind one on? -/
def rises : Int → List Int → Bool
  | _, [] => true
  | a, x :: r => decide (a < x) && rises x r
def mayD (zs : List Int) : Bool := decide (1 ≤ zs.length) && decide (zs.length ≤ 16) && rises (-1) zs
theorem rises_drop {zs : List Int} {a : Int} {k : Nat} (h : k < zs.length) : rises a (zs.drop k) = (decide (a < zs.getD k 0) && rises (zs.getD k 0) (zs.drop (k + 1))) := by
  have e : zs.getD k 0 = zs[k] := by rw [List.getD_eq_getElem?_getD, List.getElem?_eq_getElem h]; rfl
  rw [e, List.drop_eq_getElem_cons h]; rfl

set_option maxHeartbeats 1000000 in
set_option maxRecDepth 100000 in
theorem mayBeD_any (p : Option Addr) (len cap : Nat) (zs : List Int) (w : World) (hs : Seq64 w p len zs) :
    Calls Tryz.prog 32 #[.slice p len cap] w fun e w' => e = .returned (.bool (mayD zs)) ∧ w' = w := by
  obtain ⟨hl, hz, hm, hcs⟩ := hs
  obtain ⟨R, hR⟩ : ∃ R, R = mayD zs := ⟨_, rfl⟩
  rw [← hR]
  unfold mayD at hR
  rw [hl] at hR
  by_cases h1 : len < 1
  · have z : (len : Int) < 1 := by omega
    replace hR : R = false := by rw [hR]; simp; omega
    replace hR := Lib.hid hR
    clear hcs hz hl
    go_enter Tryz.func32, Tryz.ntmps32
    go_wp2_with fail
    go_ret
    exact ⟨by rw [hR.out]; rfl, rfl⟩
  · have z : ¬ (len : Int) < 1 := by omega
    by_cases h2 : 16 < len
    · have z2 : (16 : Int) < (len : Int) := by omega
      replace hR : R = false := by rw [hR]; simp; omega
      replace hR := Lib.hid hR
      clear hcs hz hl
      go_enter Tryz.func32, Tryz.ntmps32
      go_wp2_with fail
      go_ret
      exact ⟨by rw [hR.out]; rfl, rfl⟩
    · have z2 : ¬ (16 : Int) < (len : Int) := by omega
      replace hR : R = rises (-1) zs := by rw [hR, decide_eq_true (by omega), decide_eq_true (by omega)]; rfl
      obtain ⟨b, off, rfl, hlt, hall⟩ := hcs.resolve_left (by omega)
      replace hR := Lib.hid hR
      replace hall := Lib.hid hall
      replace hl := Lib.hid hl
      clear hz hcs
      go_enter Tryz.func32, Tryz.ntmps32
      go_wp2_with fail
      go_loopw [3, 16] (fun s i wr => ∃ (k : Nat) (a : Int), k ≤ len ∧ i = .int .i64 (k : Int) ∧ s = .int .i64 a ∧ Hid (wr = w ∧ R = rises a (zs.drop k))) (fun _ i _ => len - (intOf i).toNat)
      case atStart => exact ⟨0, -1, by omega, rfl, rfl, Lib.hid ⟨rfl, by rw [List.drop_zero]; exact hR.out⟩⟩
      case round =>
        obtain ⟨k, a, hk, rfl, rfl, hT⟩ := hrel
        obtain ⟨rfl, hr⟩ := hT.out
        by_cases hkn : k < len
        · have c0 := hall.out k hkn
          rw [rises_drop (by have := hl.out; omega)] at hr
          generalize zs.getD k 0 = x at *
          by_cases hx : a < x
          · have q : ¬ x ≤ a := by omega
            rw [decide_eq_true hx, Bool.true_and] at hr
            replace hr := Lib.hid hr
            clear hT
            go_wp2_with fail
            go_roundw
            case rel => exact ⟨k + 1, x, by omega, by go_num, rfl, Lib.hid ⟨(by first | rfl | trivial), hr.out⟩⟩
            case measure => simp [intOf]; omega
          · have q : x ≤ a := by omega
            rw [decide_eq_false hx, Bool.false_and] at hr
            replace hr := Lib.hid hr
            clear hT
            go_wp2_with fail
            go_ret
            exact ⟨by rw [hr.out]; rfl, (by first | rfl | trivial)⟩
        · obtain rfl : k = len := by omega
          have hkz : ¬ (k : Int) < (k : Int) := by omega
          have hr2 : R = true := by rw [hr, List.drop_of_length_le (by have := hl.out; omega)]; rfl
          replace hr2 := Lib.hid hr2
          clear hr hT
          go_wp2_with fail
          go_ret
          exact ⟨by rw [hr2.out]; rfl, (by first | rfl | trivial)⟩

theorem wide_any (p : Option Addr) (n c : Nat) (w : World) (hn : n ≤ 4611686018427387904) : Calls Tryz.prog 61 #[.slice p n c] w fun e w' => e = .returned (.bool (decide (8 < n))) ∧ w' = w := by
  have z : (decide (8 < n)) = decide ((8 : Int) < (n : Int)) := by rw [Bool.eq_iff_iff]; simp; omega
  rw [z]
  go_enter Tryz.func61, Tryz.ntmps61
  go_wp2
  go_ret
  exact ⟨rfl, rfl⟩
theorem eg61 : ∀ args w, (callFunc 61 args).run Tryz.prog w = .ok (.enter 61 args) w := enters_of Tryz.func61 (by kernel_rfl) rfl
/-- are there too many rows, or is one too wide? -/
def manyN (rows : List (List Int)) : Bool := decide (16 < rows.length) || rows.any fun r => decide (8 < r.length)
end Go.Proofs.YthocnlalahknjaaGreat.Dd
