/- Both books of the same instructions: the contract of books.
  Of each currency all nets are together 0; what is known of those matched; rows of amounts that grow. -/
import Derived.Test.YthocnlalahknjaaGreatQPhh
import Derived.Test.YthocnlalahknjaaGreatQRb
namespace Go.Proofs.YthocnlalahknjaaGreat.Dd
open Go.RowKit Go.Maps
set_option linter.unusedVariables false

/-- a row of instructions that is read -/
def DlRow (w : World) (p : Option Addr) (len : Nat) (ds : List Dl) : Prop :=
  ds.length = len ∧ (∀ d ∈ ds, d.In) ∧ (len = 0 ∨ ∃ b off, p = some ⟨b, off, none⟩ ∧ b < w.heap.size ∧ ∀ i d, ds[i]? = some d → w.cell? ⟨b, off + i * 7, none⟩ = some (.int .i64 d.id) ∧ w.cell? ⟨b, off + i * 7 + 1, none⟩ = some (.int .i64 d.a) ∧ w.cell? ⟨b, off + i * 7 + 2, none⟩ = some (.int .i64 d.b) ∧ w.cell? ⟨b, off + i * 7 + 3, none⟩ = some (.int .i64 d.sc) ∧ w.cell? ⟨b, off + i * 7 + 4, none⟩ = some (.int .i64 d.bc) ∧ w.cell? ⟨b, off + i * 7 + 5, none⟩ = some (.int .i64 d.s) ∧ w.cell? ⟨b, off + i * 7 + 6, none⟩ = some (.int .i64 d.t))
theorem DlRow.kept {w w' : World} {p : Option Addr} {len : Nat} {ds : List Dl} (h : DlRow w p len ds) (hb : Below w.heap.size w w') : DlRow w' p len ds := by
  obtain ⟨h1, h2, h3⟩ := h
  refine ⟨h1, h2, h3.imp id ?_⟩
  rintro ⟨b, off, rfl, hlt, hc⟩
  refine ⟨b, off, rfl, Nat.lt_of_lt_of_le hlt hb.size, fun i d hd => ?_⟩
  have k : ∀ o, w'.cell? ⟨b, o, none⟩ = w.cell? ⟨b, o, none⟩ := fun o => hb.cell (p := ⟨b, o, none⟩) hlt
  rw [k, k, k, k, k, k, k]
  exact hc i d hd
/-- a book that knows each instruction and its mirror -/
def subS (b : Bk) (ds : List Dl) : Bk := ds.foldl (fun b d => ((b.sub d).2.sub d.mir).2) b
theorem subS_take {b : Bk} {ds : List Dl} {k : Nat} (h : k < ds.length) : subS b (ds.take (k + 1)) = (((subS b (ds.take k)).sub ds[k]).2.sub ds[k].mir).2 := by
  unfold subS; rw [List.take_succ_eq_append_getElem h, List.foldl_append]; rfl
def bkE : Bk := ⟨16, 8, [], 0⟩
theorem bkE_ok : bkE.Ok := new_ok (by decide) (by decide)
theorem subS_ok : ∀ (ds : List Dl) (b : Bk), b.Ok → (∀ d ∈ ds, d.In) → (subS b ds).Ok
  | [], b, h, _ => h
  | d :: r, b, h, hd => subS_ok r _ (sub_ok (sub_ok h d (hd d (by simp))) d.mir (hd d (by simp)).mir) fun e he => hd e (by simp [he])
theorem sub_grow (b : Bk) (d : Dl) : (b.sub d).2.l.length ≤ b.l.length + 1 ∧ (b.sub d).2.many ≤ b.many + 1 ∧ (b.sub d).2.mem = b.mem ∧ (b.sub d).2.cur = b.cur := by
  have key : ∀ (c : Bk) (r : Bool × Int), c.l.length ≤ b.l.length + 1 → c.many ≤ b.many + 1 → c.mem = b.mem → c.cur = b.cur → (r, c).2.l.length ≤ b.l.length + 1 ∧ (r, c).2.many ≤ b.many + 1 ∧ (r, c).2.mem = b.mem ∧ (r, c).2.cur = b.cur := fun c r h1 h2 h3 h4 => ⟨h1, h2, h3, h4⟩
  unfold Bk.sub
  split
  · exact key _ _ (by omega) (by omega) rfl rfl
  · split
    · split
      · exact key _ _ (by omega) (by omega) rfl rfl
      · exact key _ _ (by simp) (by simp) rfl rfl
    · dsimp only
      split
      · exact key _ _ (by omega) (by omega) rfl rfl
      · split
        · exact key _ _ (by omega) (by omega) rfl rfl
        · exact key _ _ (by simp) (by simp) rfl rfl
theorem subS_grow : ∀ (ds : List Dl) (b : Bk), (subS b ds).l.length ≤ b.l.length + 2 * ds.length ∧ (subS b ds).many ≤ b.many + 2 * ds.length ∧ (subS b ds).mem = b.mem ∧ (subS b ds).cur = b.cur
  | [], b => ⟨by simp [subS], by simp [subS], rfl, rfl⟩
  | d :: r, b => by
    have h1 := sub_grow b d
    have h2 := sub_grow (b.sub d).2 d.mir
    have h3 := subS_grow r ((b.sub d).2.sub d.mir).2
    show (subS ((b.sub d).2.sub d.mir).2 r).l.length ≤ _ ∧ _
    rw [List.length_cons]
    refine ⟨by omega, ?_, ?_, ?_⟩
    · show (subS ((b.sub d).2.sub d.mir).2 r).many ≤ _; omega
    · show (subS ((b.sub d).2.sub d.mir).2 r).mem = _; rw [h3.2.2.1, h2.2.2.1, h1.2.2.1]
    · show (subS ((b.sub d).2.sub d.mir).2 r).cur = _; rw [h3.2.2.2, h2.2.2.2, h1.2.2.2]

abbrev BX (gb : Nat) (b : Bk) : (Nat → Prop) → World → Prop := fun P w => PB P w gb b
abbrev RX' (rb : Nat) (b : Bk) : (Nat → Prop) → World → Prop := fun P w => RB P w rb b
/-- the program's Submit, beside the reference's book -/
theorem two_sub {G : Nat → Prop} {w : World} {gb rb : Nat} {b c : Bk} (h : Apart G (BX gb b) (RX' rb c) w) (hG : ∀ j, G j → j < w.heap.size) (d : Dl) (hid : In64 d.id) (hlen : b.l.length ≤ 200) (hmany : b.many ≤ 1000) :
    Calls Tryz.prog 21 #[.pointer (some ⟨gb, 0, none⟩), d.val] w fun e w' => e = .returned (.tuple #[.bool (b.sub d).1.1, .int .i64 (b.sub d).1.2]) ∧ Apart G (BX gb (b.sub d).2) (RX' rb c) w' ∧ Kp (fun j => ¬ G j) w w' := by
  refine (Apart.call (α := Unit) (X' := fun _ => BX gb (b.sub d).2) (φ := fun _ e => e = .returned (.tuple #[.bool (b.sub d).1.1, .int .i64 (b.sub d).1.2])) (PB.live gb b) (fun _ => PB.live gb _) (RB.live rb c) hG h fun P hP hf => ?_).mono ?_
  · exact (submit_any hP d hid hlen hmany hf).mono fun e w' ⟨h1, h2, h3⟩ => ⟨(), h1, h2, h3⟩
  · rintro e w' ⟨_, h1, h2, h3⟩; exact ⟨h1, h2, h3⟩
theorem two_rsub {G : Nat → Prop} {w : World} {gb rb : Nat} {b c : Bk} (h : Apart G (BX gb b) (RX' rb c) w) (hG : ∀ j, G j → j < w.heap.size) (d : Dl) (hlen : c.l.length ≤ 200) (hmany : c.many ≤ 1000) :
    Calls Tryz.prog 24 #[.pointer (some ⟨rb, 0, none⟩), d.val] w fun e w' => e = .returned (.tuple #[.bool (c.sub d).1.1, .int .i64 (c.sub d).1.2]) ∧ Apart G (BX gb b) (RX' rb (c.sub d).2) w' ∧ Kp (fun j => ¬ G j) w w' := by
  refine (Apart.call (α := Unit) (X' := fun _ => RX' rb (c.sub d).2) (φ := fun _ e => e = .returned (.tuple #[.bool (c.sub d).1.1, .int .i64 (c.sub d).1.2])) (RB.live rb c) (fun _ => RB.live rb _) (PB.live gb b) hG h.swap fun P hP hf => ?_).mono ?_
  · exact (rsub_any hP d hlen hmany hf).mono fun e w' ⟨h1, h2, h3⟩ => ⟨(), h1, h2, h3⟩
  · rintro e w' ⟨_, h1, h2, h3⟩; exact ⟨h1, h2.swap, h3⟩

set_option maxHeartbeats 4000000 in
set_option maxRecDepth 100000 in
theorem books_any (p : Option Addr) (len cap : Nat) (ds : List Dl) (w : World) (h : DlRow w p len ds) (hlen : len ≤ 60) :
    Calls Tryz.prog 8 #[.slice p len cap] w fun e w' => ∃ gb rb, e = .returned (.tuple #[.pointer (some ⟨gb, 0, none⟩), .pointer (some ⟨rb, 0, none⟩)]) ∧
      Apart (fun j => j < w.heap.size) (BX gb (subS bkE ds)) (RX' rb (subS bkE ds)) w' ∧ Below w.heap.size w w' := by
  obtain ⟨G, hG⟩ : ∃ G : Nat → Prop, G = fun j => j < w.heap.size := ⟨_, rfl⟩
  have hnew := new_yes (fun j => w.heap.size ≤ j) 16 8 w (by decide) (fun i hi => hi)
  have hrnew := fun W => rnew_yes (fun j => W.heap.size ≤ j) 16 8 W (by decide) (fun i hi => hi)
  obtain ⟨hl, hin, hc⟩ := h
  replace hnew := Lib.hid hnew
  replace hrnew := Lib.hid hrnew
  replace hin := Lib.hid hin
  replace hc := Lib.hid hc
  replace hl := Lib.hid hl
  go_enter Tryz.func8, Tryz.ntmps8
  go_wp2_with (first
    | (go_at_call 20; (with_reducible refine hnew.out.mono ?_); rintro e w1 ⟨gb, rfl, hB1, hb1, hg1⟩; replace hB1 : Hid (PB (fun j => w.heap.size ≤ j) w1 gb bkE) := Lib.hid hB1; replace hb1 := Lib.hid hb1)
    | (go_at_call 23; (with_reducible refine (hrnew.out _).mono ?_); rintro e w2 ⟨rb, rfl, hB2, hb2, hg2⟩; replace hB2 : Hid (RB (fun j => w1.heap.size ≤ j) w2 rb bkE) := Lib.hid hB2; replace hb2 := Lib.hid hb2))
  have hA0 : Apart G (BX gb bkE) (RX' rb bkE) w2 := by
    refine ⟨fun j => w.heap.size ≤ j ∧ j < w1.heap.size, fun j => w1.heap.size ≤ j ∧ j < w2.heap.size, ?_, ?_, fun j hj => ⟨fun hr => ?_, fun hg => ?_, ?_⟩, fun j hj => ⟨fun hg => ?_, hj.2⟩⟩
    · exact (PB.live gb bkE).kept (F := fun _ => False) ((PB.live gb bkE).weak hB1.out fun j hj hp => ⟨hp, hj⟩) (Kp.of_below hb2.out) (fun _ _ _ h => h)
    · exact (RB.live rb bkE).weak hB2.out fun j hj hp => ⟨hp, hj⟩
    · have h3 := hj.2; have h4 := hr.1; omega
    · rw [hG] at hg; have := hj.1; omega
    · have := hj.2; have := hb2.out.size; omega
    · rw [hG] at hg; have := hj.1; have := hb1.out.size; omega
  have hb02 : Below w.heap.size w w2 := hb1.out.trans (hb2.out.mono hb1.out.size)
  replace hA0 := Lib.hid hA0
  replace hb02 := Lib.hid hb02
  clear hB1 hB2 hg1 hg2 hb1 hb2
  go_loopw [27] (fun i wr => ∃ k : Nat, k ≤ len ∧ i = .int .i64 (k : Int) ∧ Hid (Apart G (BX gb (subS bkE (ds.take k))) (RX' rb (subS bkE (ds.take k))) wr ∧ Below w.heap.size w wr)) (fun i _ => len - (intOf i).toNat)
  case atStart => exact ⟨0, by omega, rfl, Lib.hid ⟨hA0.out, hb02.out⟩⟩
  case round =>
    obtain ⟨k, hk, rfl, hT⟩ := hrel
    obtain ⟨hA, hbw⟩ := hT.out
    by_cases hkn : k < len
    · have hkd : k < ds.length := by have := hl.out; omega
      obtain ⟨b, off, rfl, hlt, hall⟩ := hc.out.resolve_left (by omega)
      obtain ⟨c0, c1, c2, c3, c4, c5, c6⟩ := hall k ds[k] (List.getElem?_eq_getElem hkd)
      have hdin := hin.out ds[k] (List.getElem_mem hkd)
      have hstep := subS_take (b := bkE) hkd
      generalize ds[k] = d at *
      have hg1 := (subS_grow (ds.take k) bkE)
      have hkl : (ds.take k).length ≤ 60 := by rw [List.length_take]; omega
      have hbE : bkE.l.length = 0 ∧ bkE.many = 0 := ⟨rfl, rfl⟩
      generalize subS bkE (ds.take k) = B at *
      have hq1 := sub_grow B d
      replace c0 := (hbw.cell (p := ⟨b, off + k * 7, none⟩) hlt).trans c0
      replace c1 := (hbw.cell (p := ⟨b, off + k * 7 + 1, none⟩) hlt).trans c1
      replace c2 := (hbw.cell (p := ⟨b, off + k * 7 + 2, none⟩) hlt).trans c2
      replace c3 := (hbw.cell (p := ⟨b, off + k * 7 + 3, none⟩) hlt).trans c3
      replace c4 := (hbw.cell (p := ⟨b, off + k * 7 + 4, none⟩) hlt).trans c4
      replace c5 := (hbw.cell (p := ⟨b, off + k * 7 + 5, none⟩) hlt).trans c5
      replace c6 := (hbw.cell (p := ⟨b, off + k * 7 + 6, none⟩) hlt).trans c6
      have hblt : b < wr.heap.size := Nat.lt_of_lt_of_le hlt hbw.size
      replace hA := Lib.hid hA
      replace hbw := Lib.hid hbw
      clear hall hT
      go_upto_region 9 with fail
      have o1 : ((wr.alloc d.obj).alloc d.mir.obj).heap[wr.heap.size]? = some d.obj := (Below.heap_alloc _ _ _ (by simp)).trans (heap_alloc_new wr _)
      have o2 : ((wr.alloc d.obj).alloc d.mir.obj).heap[wr.heap.size + 1]? = some d.mir.obj := new_two wr _ _
      have hb5 : Below wr.heap.size wr ((wr.alloc d.obj).alloc d.mir.obj) := ((Below.refl _ _).alloc (Nat.le_refl _) _).alloc (by simp) _
      have hs5 : ((wr.alloc d.obj).alloc d.mir.obj).heap.size = wr.heap.size + 1 + 1 := by simp
      obtain ⟨w5, hw5⟩ : ∃ w5, w5 = (wr.alloc d.obj).alloc d.mir.obj := ⟨_, rfl⟩
      rw [← hw5] at o1 o2 hb5 hs5
      change Code.wp _ _ _ _ ((wr.alloc d.obj).alloc d.mir.obj)
      rw [← hw5]
      obtain ⟨H, hH⟩ : ∃ H : Nat → Prop, H = fun j => G j ∨ (wr.heap.size ≤ j ∧ j < w5.heap.size) := ⟨_, rfl⟩
      have hA5 : Apart H (BX gb B) (RX' rb B) w5 := Apart.more (PB.live gb B) (RB.live rb B) hA.out hb5 fun j hj hh => by
        rw [hH] at hh
        rcases hh with hh | hh
        · exact hh
        · omega
      have hGl : ∀ j, G j → j < wr.heap.size := fun j hj => by rw [hG] at hj; exact Nat.lt_of_lt_of_le hj hbw.out.size
      have hHl : ∀ j, H j → j < w5.heap.size := fun j hj => by
        rw [hH] at hj
        rcases hj with hj | hj
        · have := hGl j hj; omega
        · exact hj.2
      have hH1 : H wr.heap.size := by rw [hH]; exact .inr ⟨by omega, by omega⟩
      have hH2 : H (wr.heap.size + 1) := by rw [hH]; exact .inr ⟨by omega, by omega⟩
      have hHG : ∀ j, G j → H j := fun j hj => by rw [hH]; exact .inl hj
      have hid := hdin.id
      have q1 : B.l.length ≤ 120 ∧ B.many ≤ 120 := by omega
      have s1 := fun (W : World) (h : Apart H (BX gb B) (RX' rb B) W) (hs : w5.heap.size ≤ W.heap.size) => two_sub h (fun j hj => Nat.lt_of_lt_of_le (hHl j hj) hs) d hid (by omega) (by omega)
      have s2 := fun (W : World) (h : Apart H (BX gb (B.sub d).2) (RX' rb B) W) (hs : w5.heap.size ≤ W.heap.size) => two_sub h (fun j hj => Nat.lt_of_lt_of_le (hHl j hj) hs) d.mir hid (by omega) (by omega)
      have s3 := fun (W : World) (h : Apart H (BX gb ((B.sub d).2.sub d.mir).2) (RX' rb B) W) (hs : w5.heap.size ≤ W.heap.size) => two_rsub h (fun j hj => Nat.lt_of_lt_of_le (hHl j hj) hs) d (by omega) (by omega)
      have s4 := fun (W : World) (h : Apart H (BX gb ((B.sub d).2.sub d.mir).2) (RX' rb (B.sub d).2) W) (hs : w5.heap.size ≤ W.heap.size) => two_rsub h (fun j hj => Nat.lt_of_lt_of_le (hHl j hj) hs) d.mir (by omega) (by omega)
      have bx := fun (W : World) (h : W.heap[wr.heap.size]? = some d.obj) => boxD W wr.heap.size d h
      have bm := fun (W : World) (h : W.heap[wr.heap.size + 1]? = some d.mir.obj) => boxD W (wr.heap.size + 1) d.mir h
      replace s1 := Lib.hid s1
      replace s2 := Lib.hid s2
      replace s3 := Lib.hid s3
      replace s4 := Lib.hid s4
      replace bx := Lib.hid bx
      replace bm := Lib.hid bm
      replace hA5 := Lib.hid hA5
      replace hHl := Lib.hid hHl
      replace hHG := Lib.hid hHG
      replace hH1 := Lib.hid hH1
      replace hH2 := Lib.hid hH2
      replace hH := Lib.hid hH
      replace hw5 := Lib.hid hw5
      replace hs5 := Lib.hid hs5
      replace hb5 := Lib.hid hb5
      replace hstep := Lib.hid hstep
      replace hGl := Lib.hid hGl
      clear c0 c1 c2 c3 c4 c5 c6 hq1 hg1 hkl hdin hid q1 hA
      unfold Dl.val at s1 s2 s3 s4
      have x1 := bx.out w5 o1
      have x2 := bm.out w5 o2
      obtain ⟨a0, a1, a2, a3, a4, a5, a6⟩ := x1
      obtain ⟨b0, b1, b2, b3, b4, b5, b6⟩ := x2
      have bl5 : wr.heap.size < w5.heap.size ∧ wr.heap.size + 1 < w5.heap.size := ⟨obj_lt o1, obj_lt o2⟩
      replace bl5 := Lib.hid bl5
      replace o1 := Lib.hid o1
      replace o2 := Lib.hid o2
      go_upto_region 10 with (go_at_call 21; (with_reducible refine (s1.out w5 hA5.out (Nat.le_refl _)).mono ?_); rintro e w6 ⟨rfl, hA6, hK6⟩)
      have p1 := (hK6.block _ bl5.out.1 (fun h => h hH1.out)).trans o1.out
      have p2 := (hK6.block _ bl5.out.2 (fun h => h hH2.out)).trans o2.out
      clear a0 a1 a2 a3 a4 a5 a6 b0 b1 b2 b3 b4 b5 b6
      obtain ⟨b0, b1, b2, b3, b4, b5, b6⟩ := bm.out w6 p2
      have z6 := hK6.size
      replace hA6 := Lib.hid hA6
      replace hK6 := Lib.hid hK6
      replace p1 := Lib.hid p1
      replace p2 := Lib.hid p2
      replace z6 := Lib.hid z6
      go_upto_region 11 with (go_at_call 21; (with_reducible refine (s2.out w6 hA6.out z6.out).mono ?_); rintro e w7 ⟨rfl, hA7, hK7⟩)
      have r1 := (hK7.block _ (obj_lt p1.out) (fun h => h hH1.out)).trans p1.out
      have r2 := (hK7.block _ (obj_lt p2.out) (fun h => h hH2.out)).trans p2.out
      clear b0 b1 b2 b3 b4 b5 b6
      obtain ⟨a0, a1, a2, a3, a4, a5, a6⟩ := bx.out w7 r1
      have z7 := Nat.le_trans z6.out hK7.size
      replace hA7 := Lib.hid hA7
      replace hK7 := Lib.hid hK7
      replace r1 := Lib.hid r1
      replace r2 := Lib.hid r2
      replace z7 := Lib.hid z7
      go_upto_region 12 with (go_at_call 24; (with_reducible refine (s3.out w7 hA7.out z7.out).mono ?_); rintro e w8 ⟨rfl, hA8, hK8⟩)
      have t2 := (hK8.block _ (obj_lt r2.out) (fun h => h hH2.out)).trans r2.out
      clear a0 a1 a2 a3 a4 a5 a6
      obtain ⟨b0, b1, b2, b3, b4, b5, b6⟩ := bm.out w8 t2
      have z8 := Nat.le_trans z7.out hK8.size
      replace hA8 := Lib.hid hA8
      replace hK8 := Lib.hid hK8
      replace t2 := Lib.hid t2
      replace z8 := Lib.hid z8
      go_wp2_with (go_at_call 24; (with_reducible refine (s4.out w8 hA8.out z8.out).mono ?_); rintro e w9 ⟨rfl, hA9, hK9⟩; replace hA9 := Lib.hid hA9; replace hK9 := Lib.hid hK9)
      go_roundw
      case rel =>
        refine ⟨k + 1, by omega, by go_num, Lib.hid ⟨by rw [hstep.out]; exact hA9.out.less hHG.out, ?_⟩⟩
        have kk : Kp (fun j => ¬ H j) w5 w9 := ((hK6.out.trans hK7.out).trans hK8.out).trans hK9.out
        have k5 : Below w.heap.size w w5 := hbw.out.trans (hb5.out.mono hbw.out.size)
        exact k5.trans (kk.below k5.size fun j hj hn => hn (hHG.out j (by rw [hG]; exact hj)))
      case measure => simp [intOf]; omega
    · obtain rfl : k = len := by omega
      have hkz : ¬ (k : Int) < (k : Int) := by omega
      have e1 : ds.take k = ds := List.take_of_length_le (by have := hl.out; omega)
      rw [e1] at hA
      rw [hG] at hA
      replace hA := Lib.hid hA
      replace hbw := Lib.hid hbw
      clear hT
      go_wp2_with fail
      go_ret2
      exact ⟨gb, rb, rfl, hA.out, hbw.out⟩
end Go.Proofs.YthocnlalahknjaaGreat.Dd
namespace Go.Proofs.YthocnlalahknjaaGreat.Dd
open Go.RowKit Go.Maps
set_option linter.unusedVariables false

theorem deal_at {b : Bk} {id : Int} (h : id ∈ b.all 2) : ∃ e ∈ b.l, (b.deal id).1 = e.d := by
  obtain ⟨e, he, _, hid⟩ := all_mem.1 h
  unfold Bk.deal
  cases ha : atL b.l id with
  | none =>
    exfalso
    have key : ∀ l : List En, e ∈ l → atL l id ≠ none := by
      intro l
      induction l with
      | nil => intro h; cases h
      | cons x r ih =>
        intro h
        unfold atL
        split
        · simp
        · rename_i hx
          rcases List.mem_cons.1 h with rfl | h
          · exact absurd hid hx
          · simp [ih h]
    exact key _ he ha
  | some i =>
    obtain ⟨hi, _⟩ := atL_some ha
    exact ⟨b.l[i], List.getElem_mem hi, by show (b.l.getD i default).d = _; rw [List.getD_eq_getElem?_getD, List.getElem?_eq_getElem hi]; rfl⟩
theorem matched_ok {b : Bk} (h : b.Ok) (hm : b.mem = 16) (hc : b.cur = 8) : ∀ d ∈ matchedD b, DlOk d := fun d hd => by
  unfold matchedD at hd
  obtain ⟨id, hid, rfl⟩ := List.mem_map.1 hd
  obtain ⟨e, he, hde⟩ := deal_at hid
  rw [hde]
  obtain ⟨h1, h2, _⟩ := h.may e he
  rw [mayB_iff, hm, hc] at h1
  have hs := h2.s
  have ht := h2.t
  unfold In64 at hs ht
  unfold DlOk
  omega
/-- what all members get of a currency, less what they pay -/
def tot (F : Nat → List Int) (c : Nat) : Int := sumL ((List.range 16).map fun m => sumL (F (m * 8 + c)))
theorem sum_range_upd (g : Nat → Int) (a : Nat) (x : Int) : ∀ n, sumL ((List.range n).map fun m => g m + if m = a then x else 0) = sumL ((List.range n).map g) + if a < n then x else 0
  | 0 => by simp [sumL]
  | n + 1 => by
    rw [List.range_succ, List.map_append, List.map_append, sumL_append, sumL_append, sum_range_upd g a x n]
    show _ + ((g n + if n = a then x else 0) + 0) = _ + (g n + 0) + _
    by_cases h1 : a < n
    · rw [if_pos h1, if_neg (by omega), if_pos (by omega)]; omega
    · by_cases h2 : n = a
      · rw [if_neg h1, if_pos h2, if_pos (by omega)]; omega
      · rw [if_neg h1, if_neg h2, if_neg (by omega)]; omega
theorem tot_upd (F : Nat → List Int) (a c' c : Nat) (x : Int) (ha : a < 16) (hc' : c' < 8) (hc : c < 8) : tot (updF F (a * 8 + c') (F (a * 8 + c') ++ [x])) c = tot F c + if c' = c then x else 0 := by
  unfold tot
  have e : (fun m => sumL (updF F (a * 8 + c') (F (a * 8 + c') ++ [x]) (m * 8 + c))) = fun m => sumL (F (m * 8 + c)) + if m = a then (if c' = c then x else 0) else 0 := by
    funext m
    unfold updF
    by_cases h : m * 8 + c = a * 8 + c'
    · have h1 : m = a := by omega
      have h2 : c' = c := by omega
      subst h1; subst h2
      rw [if_pos rfl, if_pos rfl, if_pos rfl, sumL_append]
      show _ + (x + 0) = _
      omega
    · rw [if_neg h]
      by_cases h1 : m = a
      · rw [if_pos h1, if_neg (by omega)]; omega
      · rw [if_neg h1]; omega
  rw [e, sum_range_upd (fun m => sumL (F (m * 8 + c))) a _ 16, if_pos ha]
theorem tot_pay1 (F : Nat → List Int) (a b c' c : Nat) (x : Int) (ha : a < 16) (hb : b < 16) (hc' : c' < 8) (hc : c < 8) : tot (pay1 F a b c' x) c = tot F c := by
  unfold pay1
  rw [tot_upd _ b c' c x hb hc' hc, tot_upd F a c' c (-x) ha hc' hc]
  split <;> omega
theorem tot_zero (c : Nat) (hc : c < 8) : ∀ (ds : List Dl), (∀ d ∈ ds, DlOk d) → tot (flowsL ds) c = 0 := by
  have key : ∀ (ds : List Dl) (F : Nat → List Int), (∀ d ∈ ds, DlOk d) → tot (ds.foldl payD F) c = tot F c := by
    intro ds
    induction ds with
    | nil => intro F _; rfl
    | cons d r ih =>
      intro F hd
      obtain ⟨a0, a1, b0, b1, c0, c1, e0, e1, _⟩ := hd d (by simp)
      rw [List.foldl_cons, ih _ fun e he => hd e (by simp [he])]
      unfold payD
      rw [tot_pay1 _ _ _ _ _ _ (by omega) (by omega) (by omega) hc, tot_pay1 _ _ _ _ _ _ (by omega) (by omega) (by omega) hc]
  intro ds hd
  unfold flowsL
  rw [key ds _ hd]
  rfl
/-- a row of amounts, new since w -/
structure IR (w wr : World) (u : Value) (l : List Int) : Prop where
  row : wr.ownsRow 0 2 1 u l.length (l.map (Value.int .i64))
  own : ∀ g, u.ownBlock = some g → w.heap.size ≤ g
  bl : Below w.heap.size w wr
theorem IR.nil (w : World) : IR w w (.slice none 0 0) [] := ⟨World.ownsRow_nil _ _ _ _, (fun g hg => by simp [Value.ownBlock] at hg), Below.refl _ _⟩
theorem IR.base {w w2 wr : World} {u : Value} {l : List Int} (h : IR w2 wr u l) (hb : Below w.heap.size w w2) : IR w wr u l :=
  ⟨h.row, fun g hg => Nat.le_trans hb.size (h.own g hg), hb.trans (h.bl.mono hb.size)⟩
theorem IR.below {w wr w' : World} {u : Value} {l : List Int} (h : IR w wr u l) (hb : Below wr.heap.size wr w') : IR w w' u l :=
  ⟨orow_kept h.row fun g hg => hb.block g (World.ownsRow.lt h.row g hg).2, h.own, h.bl.trans (hb.mono h.bl.size)⟩
/-- what an append of one more leaves -/
theorem IR.app {w wr w' : World} {u v' : Value} {l : List Int} {x : Int} {o : Obj} (h : IR w wr u l) (h1 : w'.ownsRow 0 2 1 v' (l.length + 1) (l.map (Value.int .i64) ++ [.int .i64 x])) (h2 : (wr.alloc o).grownBy w' u.ownBlock)
    (h3 : ∀ g', v'.ownBlock = some g' → u.ownBlock = some g' ∨ wr.heap.size + 1 ≤ g') : IR w w' v' (l ++ [x]) := by
  refine ⟨?_, fun g' hg' => ?_, below_grown (h.bl.alloc h.bl.size o) h2 h.own (Nat.le_refl _)⟩
  · rw [List.length_append, List.map_append]; exact h1
  · rcases h3 g' hg' with h4 | h4
    · exact h.own g' h4
    · have := h.bl.size; omega
theorem IR.pre {w wr : World} {u : Value} {l : List Int} (h : IR w wr u l) (o : Obj) : (wr.alloc o).ownsRow 0 2 1 u l.length (l.map (Value.int .i64)) := orow_kept h.row fun g' hg' => Below.heap_alloc _ _ _ (World.ownsRow.lt h.row g' hg').2
theorem box2 {W : World} {g : Nat} (x : Int) (h : W.heap[g]? = some (.cells #[.int .i64 x] 2 (0, 0))) : ∀ (j : Nat) (u : Value), [Value.int .i64 x][j]? = some u → W.cell? ((⟨g, 0, none⟩ : Addr).add j) = some u := fun j u hu => by
  match j with
  | 0 => injection hu with hu; rw [← hu]; exact obj_cell h rfl
  | j + 1 => simp at hu

/-- Net of a book of the law's -/
theorem net_book {G : Nat → Prop} {w : World} {gb rb : Nat} {ds : List Dl} {c : Bk} (h : Apart G (BX gb (subS bkE ds)) (RX' rb c) w) (hin : ∀ d ∈ ds, d.In) (hl : ds.length ≤ 60) (nm nc : Int) :
    Calls Tryz.prog 9 #[.pointer (some ⟨gb, 0, none⟩), .int .i64 nm, .int .i64 nc] w fun e w' => Below w.heap.size w w' ∧ NetOut (matchedD (subS bkE ds)) nm nc w' e := by
  by_cases ha : nm < 1 ∨ 16 < nm ∨ nc < 1 ∨ 8 < nc
  · refine (net_arg gb nm nc w ha).mono ?_
    rintro e w' ⟨rfl, rfl⟩
    exact ⟨Below.refl _ _, .inl ⟨ha, rfl⟩⟩
  · obtain ⟨n, rfl⟩ : ∃ n : Nat, nm = n := ⟨nm.toNat, by omega⟩
    obtain ⟨m, rfl⟩ : ∃ n : Nat, nc = n := ⟨nc.toNat, by omega⟩
    obtain ⟨PF, _, hP, _⟩ := h
    have hok := subS_ok ds bkE bkE_ok hin
    have hg := subS_grow ds bkE
    have hg0 : bkE.l.length = 0 := rfl
    exact net_main hP n m (by omega) (by omega) (by omega) (by omega) (by omega) hok.nodup2 (fun id hid => all_in hok hid) (by rw [all_len]; have := List.length_filter_le (fun e : En => decide (e.st = 2)) (subS bkE ds).l; omega) (matched_ok hok hg.2.2.1 hg.2.2.2)
end Go.Proofs.YthocnlalahknjaaGreat.Dd
