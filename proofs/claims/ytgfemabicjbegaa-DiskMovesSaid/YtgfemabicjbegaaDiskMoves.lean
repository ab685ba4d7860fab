/- What is moved there and back is as it was; without power nothing changes: the law's walk. -/
import Derived.Test.YtgfemabicjbegaaG4
namespace Go.Proofs.Ytgfemabicjbegaa
open Go.RowKit
set_option linter.unusedVariables false

/-- a crash that keeps all -/
theorem crash_all (m : DM) (ok : m.Ok) (hr : m.room ≤ 1048576) (k : Nat) (hk : k < 4) : (m.crash 1048576 1048576 1048576 1048576).B k = m.B k := by
  have h := crash_B m (fun _ => 1048576) k hk
  refine h.trans (List.take_of_length_le ?_)
  have h1 := ok.sure k hk
  have h2 := ok.len hk
  have h3 := ok.tot
  unfold DM.left
  show _ ≤ m.S k + min (max (1048576 : Int) 0).toNat _
  have : (max (1048576 : Int) 0).toNat = 1048576 := by decide
  rw [this]
  omega
theorem step_room (m : DM) (x : DOp) : (m.step x).room = m.room := by
  unfold DM.step DM.app DM.syn DM.cut DM.mov
  repeat' split
  all_goals first | rfl | exact m.burnt_room
theorem run_room (m : DM) (ops : Nat → DOp) : ∀ k, (m.run ops k).room = m.room
  | 0 => rfl
  | k + 1 => (step_room _ _).trans (run_room m ops k)
/-- there is power, and no fuse -/
def Free (m : DM) : Prop := m.fuse = -1 ∧ m.down = false
theorem Free.pow {m : DM} (h : Free m) : m.pow = true := by unfold DM.pow; rw [h.1, h.2]; rfl
theorem Free.burnt {m : DM} (h : Free m) : Free m.burnt := by
  unfold DM.burnt
  rw [h.pow, if_pos rfl, h.1]
  exact ⟨rfl, h.2⟩
theorem mov_free {m : DM} (h : Free m) (a b : Nat) (ha : a < 4) (hb : b < 4) : (m.mov (a : Int) (b : Int)).1 = 0 ∧ Free (m.mov (a : Int) (b : Int)).2 ∧ (m.mov (a : Int) (b : Int)).2.B b = m.B a := by
  unfold DM.mov
  rw [isFile_of a ha, isFile_of b hb, h.pow]
  refine ⟨rfl, h.burnt, ?_⟩
  show upd (upd m.B a []) b (m.B a) b = m.B a
  exact upd_same _ _ _
/-- the power is gone, or goes at the next call -/
def Gone (m : DM) : Prop := m.pow = false
theorem Gone.burnt {m : DM} (h : Gone m) : Gone m.burnt := by
  unfold Gone at *
  unfold DM.burnt
  rw [h, if_neg (by simp)]
  rfl
theorem app_gone {m : DM} (h : Gone m) (a : Nat) (ha : a < 4) (l : List UInt8) : m.app (a : Int) l = (9, m.burnt) := by
  unfold DM.app; rw [isFile_of a ha, h]; rfl
theorem syn_gone {m : DM} (h : Gone m) (a : Nat) (ha : a < 4) : m.syn (a : Int) = (9, m.burnt) := by
  unfold DM.syn; rw [isFile_of a ha, h]; rfl
theorem cut_gone {m : DM} (h : Gone m) (a : Nat) (ha : a < 4) : m.cut (a : Int) 0 = (9, m.burnt) := by
  unfold DM.cut DM.cutOk; rw [isFile_of a ha, h]; simp
theorem mov_gone {m : DM} (h : Gone m) (a b : Nat) (ha : a < 4) (hb : b < 4) : m.mov (a : Int) (b : Int) = (9, m.burnt) := by
  unfold DM.mov; rw [isFile_of a ha, isFile_of b hb, h]; rfl

theorem awX {W w : World} {b : Nat} {m : DM} (h : Awk W w b m) (ok : m.Ok) :
    Calls Try.prog 13 #[.pointer (some ⟨b, 0, none⟩), .agg #[.int .i64 1048576, .int .i64 1048576, .int .i64 1048576, .int .i64 1048576]] w fun e w' => e = .returned (.tuple #[]) ∧ Awk W w' b (m.crash 1048576 1048576 1048576 1048576) := by
  refine (crash_any _ b m (fun _ => 1048576) w h.disk ok h.up (fun _ => by omega)).mono ?_
  rintro e w' ⟨rfl, hD, hK⟩
  exact ⟨rfl, hD, h.kp.trans hK⟩

set_option maxHeartbeats 4000000 in
set_option maxRecDepth 100000 in
theorem diskMoves_any (p : Option Addr) (len cap : Nat) (ops : Nat → DOp) (x y : Nat) (v : World) (hrow : OpRow v p len ops) (hx : x < 256) (hy : y < 256) :
    Calls Try.prog 5 #[.slice p len cap, .int .u8 (x : Int), .int .u8 (y : Int)] v fun e w' => e = .returned (.bool true) ∧ Below v.heap.size v w' := by
  have hlen := hrow.2.1
  replace hrow := Lib.hid hrow
  go_enter Try.func5, Try.ntmps5
  go_wp2_with fail
  refine (awake_any _).mono ?_
  rintro e w0 ⟨rfl, hB⟩
  go_wp2_with fail
  refine (new_any (fun j => v.heap.size ≤ j) 1048576 _ (by omega) (fun j hj => Nat.le_trans hB.size hj)).mono ?_
  rintro e w1 ⟨d, rfl, hd, hD, hB1⟩
  have hB2 := hB.trans (hB1.mono hB.size)
  clear hB hB1 hd
  go_wp2_with fail
  refine (newR_any 1048576 _ (by omega)).mono ?_
  rintro e w2 ⟨rfl, _, rfl⟩
  have hL := lp_start hB2 hD (by omega)
  have hBr := hB2.size
  clear hB2 hD
  generalize w1.alloc (.cells (rArr (DM.new 1048576)) 40) = w2 at *
  generalize w1.heap.size = r at *
  have hrm : Hid ((DM.new 1048576).room = 1048576) := Lib.hid rfl
  generalize DM.new 1048576 = m0 at *
  replace hL := Lib.hid hL
  go_wp2_with fail
  go_loopw [11, 12] (fun s i wr => ∃ k n : Nat, k ≤ len ∧ k ≤ 40 ∧ n ≤ 4000 ∧ i = .int .i64 k ∧ s = .int .i64 n ∧ Hid (Lp v (fun j => v.heap.size ≤ j ∧ j ≠ r) wr d r (m0.run ops k))) (fun _ i _ => len - (intOf i).toNat)
  case atStart => exact ⟨0, 0, by omega, by omega, by omega, rfl, rfl, hL⟩
  case round =>
    obtain ⟨k, n, hk, hk40, hn, rfl, rfl, hR⟩ := hrel
    by_cases hgo : k < len ∧ k < 40
    · obtain ⟨hlt, h40⟩ := hgo
      have kz : (k : Int) < (len : Int) := by omega
      have kz40 : (k : Int) < 40 := by omega
      obtain ⟨b, off, rfl, hblt, hcell⟩ := hrow.out.2.2.resolve_left (by omega)
      have hc := hcell k hlt
      have hop := hrow.out.1 k
      have hcw : ∀ j, j < 9 → wr.cell? ⟨b, off + k * 9 + j, none⟩ = (ops k).arr[j]? := fun j hj => (hR.out.bel.cell (p := ⟨b, off + k * 9 + j, none⟩) hblt).trans (hc j hj)
      have c0 : wr.cell? ⟨b, off + k * 9, none⟩ = some (.int .i64 (ops k).Do) := hcw 0 (by omega)
      have c1 : wr.cell? ⟨b, off + k * 9 + 1, none⟩ = some (.int .i64 (ops k).File) := hcw 1 (by omega)
      have c2 : wr.cell? ⟨b, off + k * 9 + 2, none⟩ = some (.int .i64 (ops k).N) := hcw 2 (by omega)
      have c3 : wr.cell? ⟨b, off + k * 9 + 3, none⟩ = some (.int .i64 (ops k).To) := hcw 3 (by omega)
      have c4 : wr.cell? ⟨b, off + k * 9 + 4, none⟩ = some (.string (ops k).Bs) := hcw 4 (by omega)
      have c5 : wr.cell? ⟨b, off + k * 9 + 5, none⟩ = some (.int .i64 ((ops k).K 0)) := hcw 5 (by omega)
      have c6 : wr.cell? ⟨b, off + k * 9 + 6, none⟩ = some (.int .i64 ((ops k).K 1)) := hcw 6 (by omega)
      have c7 : wr.cell? ⟨b, off + k * 9 + 7, none⟩ = some (.int .i64 ((ops k).K 2)) := hcw 7 (by omega)
      have c8 : wr.cell? ⟨b, off + k * 9 + 8, none⟩ = some (.int .i64 ((ops k).K 3)) := hcw 8 (by omega)
      clear hc hcw hcell
      have hbs := hop.2
      have cO := doop_any _ d r _ (ops k) wr hR.out.two hop.1
      unfold DOp.arr at cO
      rw [show (m0.run ops k).step (ops k) = m0.run ops (k + 1) from rfl] at cO
      replace cO := Lib.hid cO
      replace hop := Lib.hid hop
      by_cases hsz : 4000 < n + (ops k).Bs.size
      · have hsz1 : (4000 : Int) < (n : Int) + ((ops k).Bs.size : Int) := by omega
        go_wp2_with fail
        go_ret
        exact ⟨rfl, hR.out.bel⟩
      · have hsz1 : ¬ (4000 : Int) < (n : Int) + ((ops k).Bs.size : Int) := by omega
        go_wp2_with fail
        with_reducible refine cO.out.mono ?_
        rintro e w3 ⟨rfl, hT, hK⟩
        have hL3 := hR.out.step rfl hBr hT hK
        clear hT hK
        replace hL3 := Lib.hid hL3
        clear c0 c1 c2 c3 c4 c5 c6 c7 c8
        go_wp2_with fail
        go_roundw
        case rel => exact ⟨k + 1, n + (ops k).Bs.size, by omega, by omega, by omega, by go_num, by go_num, hL3⟩
        case measure => simp [intOf]; omega
    · have hA : Awk v wr d (m0.run ops k) := ⟨hR.out.two.disk.weak fun _ _ h => h.1, Kp.of_below hR.out.bel⟩
      have ok := hR.out.two.ok
      have hroom := hrm.out ▸ run_room m0 ops k
      generalize m0.run ops k = m at *
      replace hA := Lib.hid hA
      replace ok := Lib.hid ok
      have hgo' : ¬ (k : Int) < (len : Int) ∨ ((k : Int) < (len : Int) ∧ ¬ (k : Int) < 40) := by omega
      clear hR hL
      obtain ⟨a, ha4, ha⟩ : ∃ a : Nat, a < 4 ∧ (x : Int) % 4 = (a : Int) := ⟨x % 4, by omega, by omega⟩
      obtain ⟨b, hb4, hb⟩ : ∃ b : Nat, b < 4 ∧ (y : Int) % 4 = (b : Int) := ⟨y % 4, by omega, by omega⟩
      rcases hgo' with kz | ⟨kz, kz40⟩
      all_goals
        go_wp2_with fail
        with_reducible refine (awX hA.out ok.out).mono ?_
        rintro e w1 ⟨rfl, A1⟩
        have f1 : Free (m.crash 1048576 1048576 1048576 1048576) := ⟨rfl, rfl⟩
        have ok1 := ok.out.crash 1048576 1048576 1048576 1048576
        generalize m.crash 1048576 1048576 1048576 1048576 = m1 at *
        -- read, there, back, read
        obtain ⟨e2, f2, q2⟩ := mov_free f1 a b ha4 hb4
        have ok2 := ok1.mov (a : Int) (b : Int)
        obtain ⟨e3, f3, q3⟩ := mov_free f2 b a hb4 ha4
        have ok3 := ok2.mov (b : Int) (a : Int)
        have q4 : ((m1.mov (a : Int) (b : Int)).2.mov (b : Int) (a : Int)).2.B a = m1.B a := q3.trans q2
        generalize hl : m1.B a = l at *
        have r1 := awR A1 (a : Int) (isFile_of a ha4) l (by rw [Int.toNat_natCast, hl])
        have r2 := awM A1 ok1 (a : Int) (b : Int) 0 e2
        clear A1
        unfold sv at r1
        replace r1 := Lib.hid r1
        replace r2 := Lib.hid r2
        go_wp2_with fail
        with_reducible refine r1.out.mono ?_
        rintro e w' ⟨rfl, rfl⟩
        go_wp2_with fail
        with_reducible refine r2.out.mono ?_
        rintro e w2 ⟨rfl, A2⟩
        have r3 := awM A2 ok2 (b : Int) (a : Int) 0 e3
        clear A2 r1 r2
        replace r3 := Lib.hid r3
        go_wp2_with fail
        with_reducible refine r3.out.mono ?_
        rintro e w3 ⟨rfl, A3⟩
        generalize ((m1.mov (a : Int) (b : Int)).2.mov (b : Int) (a : Int)).2 = m3 at *
        have r4 := awR A3 (a : Int) (isFile_of a ha4) l (by rw [Int.toNat_natCast, q4])
        have r5 := awF A3 0
        have ok5 := ok3.setf 0 (by omega)
        have g5 : Gone (m3.setf 0) := by unfold Gone DM.pow DM.setf; simp; intro _; omega
        have b5 : (m3.setf 0).B a = l := q4
        clear A3 r3
        unfold sv at r4
        replace r4 := Lib.hid r4
        replace r5 := Lib.hid r5
        generalize m3.setf 0 = m5 at *
        go_wp2_with fail
        with_reducible refine r4.out.mono ?_
        rintro e w' ⟨rfl, rfl⟩
        go_wp2_with fail
        with_reducible refine r5.out.mono ?_
        rintro e w5 ⟨rfl, A5⟩
        have r6 := awA A5 ok5 (a : Int) ⟨#[120]⟩ [120] rfl 9 (by rw [app_gone g5 a ha4])
        rw [app_gone g5 a ha4] at r6
        have ok6 := ok5.burnt
        have g6 := g5.burnt
        have b6 : m5.burnt.B a = l := by rw [m5.burnt_B]; exact b5
        generalize m5.burnt = m6 at *
        clear A5 r4 r5
        replace r6 := Lib.hid r6
        go_wp2_with fail
        with_reducible refine r6.out.mono ?_
        rintro e w6 ⟨rfl, A6⟩
        have r7 := awS A6 ok6 (a : Int) 9 (by rw [syn_gone g6 a ha4])
        rw [syn_gone g6 a ha4] at r7
        have ok7 := ok6.burnt
        have g7 := g6.burnt
        have b7 : m6.burnt.B a = l := by rw [m6.burnt_B]; exact b6
        generalize m6.burnt = m7 at *
        clear A6 r6
        replace r7 := Lib.hid r7
        go_wp2_with fail
        with_reducible refine r7.out.mono ?_
        rintro e w7 ⟨rfl, A7⟩
        have r8 := awC A7 ok7 (a : Int) 0 9 (by rw [cut_gone g7 a ha4])
        rw [cut_gone g7 a ha4] at r8
        have ok8 := ok7.burnt
        have g8 := g7.burnt
        have b8 : m7.burnt.B a = l := by rw [m7.burnt_B]; exact b7
        generalize m7.burnt = m8 at *
        clear A7 r7
        replace r8 := Lib.hid r8
        go_wp2_with fail
        with_reducible refine r8.out.mono ?_
        rintro e w8 ⟨rfl, A8⟩
        have r9 := awM A8 ok8 (a : Int) (b : Int) 9 (by rw [mov_gone g8 a b ha4 hb4])
        rw [mov_gone g8 a b ha4 hb4] at r9
        have b9 : m8.burnt.B a = l := by rw [m8.burnt_B]; exact b8
        generalize m8.burnt = m9 at *
        clear A8 r8
        replace r9 := Lib.hid r9
        go_wp2_with fail
        with_reducible refine r9.out.mono ?_
        rintro e w9 ⟨rfl, A9⟩
        have r10 := awR A9 (a : Int) (isFile_of a ha4) l (by rw [Int.toNat_natCast, b9])
        unfold sv at r10
        replace r10 := Lib.hid r10
        replace A9 := Lib.hid A9
        go_wp2_with fail
        with_reducible refine r10.out.mono ?_
        rintro e w' ⟨rfl, rfl⟩
        go_wp2_with fail
        go_ret
        exact ⟨by simp, A9.out.kp.below (Nat.le_refl _) fun j hj h => by omega⟩

theorem diskMoves_int (p : Option Addr) (len cap : Nat) (ops : Nat → DOp) (x y : Int) (v : World) (hrow : OpRow v p len ops) (hx : 0 ≤ x ∧ x ≤ 255) (hy : 0 ≤ y ∧ y ≤ 255) :
    Calls Try.prog 5 #[.slice p len cap, .int .u8 x, .int .u8 y] v fun e w' => e = .returned (.bool true) ∧ Below v.heap.size v w' := by
  obtain ⟨a, rfl⟩ : ∃ a : Nat, x = (a : Int) := ⟨x.toNat, by omega⟩
  obtain ⟨b, rfl⟩ : ∃ b : Nat, y = (b : Int) := ⟨y.toNat, by omega⟩
  exact diskMoves_any p len cap ops a b v hrow (by omega) (by omega)
end Go.Proofs.Ytgfemabicjbegaa
