/- Operation by operation, a disk answers as the document's does: the law's walk. -/
import Derived.Test.YtgfemabicjbegaaG3
import Derived.Test.YtgfemabicjbegaaG2
namespace Go.Proofs.Ytgfemabicjbegaa
open Go.RowKit
set_option linter.unusedVariables false

theorem below_dn {B : Nat} {w w1 : World} (h : Below B w w1) (n : Nat) : Below B w (w1.drewN n) := h.trans ⟨rfl, rfl, rfl, Nat.le_refl _, fun _ _ => rfl⟩

/-- a disk behind k operations -/
def DM.run (m : DM) (ops : Nat → DOp) : Nat → DM
  | 0 => m
  | k + 1 => (m.run ops k).step (ops k)

/-- what the laws' loop over operations holds -/
structure Lp (w : World) (P : Nat → Prop) (wr : World) (d r : Nat) (m : DM) : Prop where
  two : Two P wr d r m
  bel : Below w.heap.size w wr
/-- both disks are new -/
theorem lp_start {w w1 : World} {d room : Nat} (hB1 : Below w.heap.size w w1) (hD : IsD (fun j => w.heap.size ≤ j) w1 d (DM.new room)) (hr : room ≤ 16777216) :
    Lp w (fun j => w.heap.size ≤ j ∧ j ≠ w1.heap.size) (w1.alloc (.cells (rArr (DM.new room)) 40)) d w1.heap.size (DM.new room) := by
  refine ⟨⟨(hD.weak fun j hj h => ⟨h, by omega⟩).kept ((Kp.refl (fun _ => False) w1).alloc _) (fun _ _ _ h => h), heap_alloc_new w1 _, DM.new_ok room hr, fun j hj => ?_, fun h => h.2 rfl⟩, hB1.alloc hB1.size _⟩
  rw [World.size_alloc] at hj
  have := hB1.size
  exact ⟨by omega, by omega⟩
theorem Lp.step {w wr w' : World} {d r : Nat} {m m' : DM} {B : Nat} (h : Lp w (fun j => w.heap.size ≤ j ∧ j ≠ B) wr d r m) (hB : r = B) (hw : w.heap.size ≤ B) (h2 : Two (fun j => w.heap.size ≤ j ∧ j ≠ B) w' d r m') (hK : Kp (fun j => (w.heap.size ≤ j ∧ j ≠ B) ∨ j = r) wr w') :
    Lp w (fun j => w.heap.size ≤ j ∧ j ≠ B) w' d r m' := by
  refine ⟨h2, h.bel.trans (hK.below h.bel.size fun j hj hF => ?_)⟩
  rcases hF with hF | hF <;> omega
theorem Lp.later {w wr w' : World} {P : Nat → Prop} {d r : Nat} {m : DM} (h : Lp w P wr d r m) (hb : Below wr.heap.size wr w') : Lp w P w' d r m :=
  ⟨⟨h.two.disk.kept (Kp.of_below (F := fun _ => False) hb) (fun _ _ _ h => h), h.two.ref.kept (Kp.of_below (F := fun _ => False) hb) (fun h => h), h.two.ok, fun j hj => h.two.up j (by have := hb.size; omega), h.two.notr⟩, h.bel.trans (hb.mono h.bel.size)⟩

theorem leftD_any (P : Nat → Prop) (b : Nat) (m : DM) (w : World) (h : IsD P w b m) (ok : m.Ok) :
    Calls Try.prog 10 #[.pointer (some ⟨b, 0, none⟩)] w fun e w' => e = .returned (.int .i64 ((m.room - m.tot : Nat) : Int)) ∧ Below w.heap.size w w' := by
  obtain ⟨vs, h⟩ := h
  exact left_any P b m vs w h ok

set_option maxHeartbeats 4000000 in
set_option maxRecDepth 100000 in
theorem diskDoes_any (room : Int) (p : Option Addr) (len cap : Nat) (ops : Nat → DOp) (w : World) (hr0 : -9223372036854775808 ≤ room ∧ room ≤ 9223372036854775807) (hrow : OpRow w p len ops) :
    Calls Try.prog 3 #[.int .i64 room, .slice p len cap] w fun e w' => e = .returned (.bool true) ∧ Below w.heap.size w w' := by
  have hlen := hrow.2.1
  replace hrow := Lib.hid hrow
  by_cases hbad : room < 0 ∨ 16777216 < room
  · have cN := fun w => newBad_any room w hbad
    have cR := fun w => newRBad_any room w hbad
    replace cN := Lib.hid cN
    replace cR := Lib.hid cR
    clear hbad hr0
    go_enter Try.func3, Try.ntmps3
    go_wp2_with (first
      | (go_at_call 6; refine (awake_any _).mono ?_; rintro e w1 ⟨rfl, hB⟩; replace hB := Lib.hid hB)
      | (go_at_call 7; refine (cN.out _).mono ?_; rintro e w' ⟨rfl, rfl⟩)
      | (go_at_call 8; refine (cR.out _).mono ?_; rintro e w' ⟨rfl, rfl⟩))
    refine wp_loop_rounds 1 ?_
    rw [rounds_succ]
    go_wp2_with fail
    go_ret
    exact ⟨rfl, hB.out⟩
  · obtain ⟨q, rfl⟩ : ∃ q : Nat, room = (q : Int) := ⟨room.toNat, by omega⟩
    have hq : q ≤ 16777216 := by omega
    clear hbad hr0
    go_enter Try.func3, Try.ntmps3
    go_wp2_with fail
    refine (awake_any _).mono ?_
    rintro e w0 ⟨rfl, hB⟩
    go_wp2_with fail
    refine (new_any (fun j => w.heap.size ≤ j) q _ hq (fun j hj => Nat.le_trans hB.size hj)).mono ?_
    rintro e w1 ⟨d, rfl, hd, hD, hB1⟩
    have hB2 := hB.trans (hB1.mono hB.size)
    clear hB hB1 hd
    go_wp2_with fail
    refine (newR_any q _ hq).mono ?_
    rintro e w2 ⟨rfl, _, rfl⟩
    have hL := lp_start hB2 hD hq
    have hBr := hB2.size
    clear hB2 hD
    generalize w1.alloc (.cells (rArr (DM.new q)) 40) = w2 at *
    generalize w1.heap.size = r at *
    generalize DM.new q = m0 at *
    replace hL := Lib.hid hL
    go_wp2_with fail
    go_loopw [9, 10] (fun s i wr => ∃ k n : Nat, k ≤ len ∧ k ≤ 40 ∧ n ≤ 4000 ∧ i = .int .i64 k ∧ s = .int .i64 n ∧ Hid (Lp w (fun j => w.heap.size ≤ j ∧ j ≠ r) wr d r (m0.run ops k))) (fun _ i _ => len - (intOf i).toNat)
    case atStart => exact ⟨0, 0, by omega, by omega, by omega, rfl, rfl, hL⟩
    case round =>
      obtain ⟨k, n, hk, hk40, hn, rfl, rfl, hR⟩ := hrel
      by_cases hlt : k < len
      · by_cases h40 : k < 40
        · have kz : (k : Int) < (len : Int) := by omega
          have kz40 : (k : Int) < 40 := by omega
          obtain ⟨b, off, rfl, hblt, hcell⟩ := hrow.out.2.2.resolve_left (by omega)
          have hc := hcell k hlt
          have hop := hrow.out.1 k
          have hcw : ∀ j, j < 9 → wr.cell? ⟨b, off + k * 9 + j, none⟩ = (ops k).arr[j]? := fun j hj => (hR.out.bel.cell (p := ⟨b, off + k * 9 + j, none⟩) hblt).trans (hc j hj)
          have c0 : wr.cell? ⟨b, off + k * 9, none⟩ = some (.int .i64 (ops k).Do) := hcw 0 (by omega)
          have c1 : wr.cell? ⟨b, off + k * 9 + 1, none⟩ = some (.int .i64 (ops k).File) := hcw 1 (by omega)
          have c2 : wr.cell? ⟨b, off + k * 9 + 2, none⟩ = some (.int .i64 (ops k).N) := hcw 2 (by omega)
          have c3 : wr.cell? ⟨b, off + k * 9 + 3, none⟩ = some (.int .i64 (ops k).To) := hcw 3 (by omega)
          have c4 : wr.cell? ⟨b, off + k * 9 + 4, none⟩ = some (.string (ops k).Bs) := hcw 4 (by omega)
          have c5 : wr.cell? ⟨b, off + k * 9 + 5, none⟩ = some (.int .i64 ((ops k).K 0)) := hcw 5 (by omega)
          have c6 : wr.cell? ⟨b, off + k * 9 + 6, none⟩ = some (.int .i64 ((ops k).K 1)) := hcw 6 (by omega)
          have c7 : wr.cell? ⟨b, off + k * 9 + 7, none⟩ = some (.int .i64 ((ops k).K 2)) := hcw 7 (by omega)
          have c8 : wr.cell? ⟨b, off + k * 9 + 8, none⟩ = some (.int .i64 ((ops k).K 3)) := hcw 8 (by omega)
          clear hc hcw hcell
          have hbs := hop.2
          have cO := doop_any _ d r _ (ops k) wr hR.out.two hop.1
          unfold DOp.arr at cO
          rw [show (m0.run ops k).step (ops k) = m0.run ops (k + 1) from rfl] at cO
          replace cO := Lib.hid cO
          replace hop := Lib.hid hop
          by_cases hsz : 4000 < n + (ops k).Bs.size
          · have hsz1 : (4000 : Int) < (n : Int) + ((ops k).Bs.size : Int) := by omega
            go_wp2_with fail
            go_ret
            exact ⟨rfl, hR.out.bel⟩
          · have hsz1 : ¬ (4000 : Int) < (n : Int) + ((ops k).Bs.size : Int) := by omega
            go_wp2_with fail
            with_reducible refine cO.out.mono ?_
            rintro e w3 ⟨rfl, hT, hK⟩
            have hL3 := hR.out.step rfl hBr hT hK
            clear hT hK
            have cD := leftD_any _ d _ w3 hL3.two.disk hL3.two.ok
            replace hL3 := Lib.hid hL3
            replace cD := Lib.hid cD
            clear c0 c1 c2 c3 c4 c5 c6 c7 c8
            go_wp2_with fail
            with_reducible refine cD.out.mono ?_
            rintro e w4 ⟨rfl, hb4⟩
            have hL4 := hL3.out.later hb4
            clear hb4
            have cE := leftR_any r _ w4 hL4.two.ref hL4.two.ok
            replace hL4 := Lib.hid hL4
            replace cE := Lib.hid cE
            go_wp2_with fail
            with_reducible refine cE.out.mono ?_
            rintro e w5' ⟨rfl, n5, rfl⟩
            have hL5 := hL4.out.later (below_dn (Below.refl _ w4) n5)
            replace hL5 := Lib.hid hL5
            generalize w4.drewN n5 = w5 at *
            clear cD cE cO hR hL3 hL4
            go_wp2_with fail
            go_loop [11] (fun i => ∃ j : Nat, j ≤ 4 ∧ i = .int .i64 j) (fun i => 4 - (intOf i).toNat)
            case atStart => exact ⟨0, by omega, rfl⟩
            case round =>
              obtain ⟨j, hj, rfl⟩ := hrel
              by_cases hj4 : j < 4
              · have jz : (j : Int) < 4 := by omega
                have cA := readD_any _ d _ (j : Int) _ hL5.out.two.disk
                rw [isFile_of j hj4] at cA
                simp only [if_true, Int.toNat_natCast] at cA
                have ct := hL5.out.two.ref.text hj4
                unfold sv at cA ct
                replace cA := Lib.hid cA
                generalize (⟨((m0.run ops (k + 1)).B j).toArray⟩ : ByteArray) = t at *
                go_wp2_with (first | (go_at_call 12; (with_reducible refine cA.out.mono ?_); rintro e w' ⟨rfl, rfl⟩))
                go_round
                case rel => exact ⟨j + 1, by omega, by go_num⟩
                case measure => simp [intOf]; omega
              · obtain rfl : j = 4 := by omega
                go_wp2_with fail
                go_roundw
                case rel => exact ⟨k + 1, n + (ops k).Bs.size, by omega, by omega, by omega, by go_num, by go_num, hL5⟩
                case measure => simp [intOf]; omega
        · have kz : (k : Int) < (len : Int) := by omega
          have kz40 : ¬ (k : Int) < 40 := by omega
          go_wp2_with fail
          go_ret
          exact ⟨rfl, hR.out.bel⟩
      · have kz : ¬ (k : Int) < (len : Int) := by omega
        go_wp2_with fail
        go_ret
        exact ⟨rfl, hR.out.bel⟩
end Go.Proofs.Ytgfemabicjbegaa
