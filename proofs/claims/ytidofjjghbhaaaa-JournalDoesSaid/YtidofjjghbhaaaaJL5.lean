/- Call by call: the law's walk, over any journal that keeps its contracts: ahead of the operations. -/
import Derived.Test.YtidofjjghbhaaaaJL4
import Derived.Deep.QuietTactic
import Derived.BigQuiet
import Derived.Deep.RegionHeld3
namespace Go.Proofs.Ytidofjjghbhaaaa
open Go.RowKit
set_option linter.unusedVariables false

section
variable {G : Nat → Prop} {X Y : (Nat → Prop) → World → Prop} {w : World} {d r jb rb : Nat} {m : DM}
theorem st_dappP (I : JI) (lY : Live Y) (hG : ∀ j, G j → j < w.heap.size) (h : Apart G (PX I d m none jb) Y w) (ok : m.Ok) (f : Int) (s : ByteArray) :
    Calls Try.prog 11 #[.pointer (some ⟨d, 0, none⟩), .int .i64 f, .string s] w fun e w' => e = .returned (.int .i64 (m.app f (bl s)).1) ∧ Apart G (PX I d (m.app f (bl s)).2 none jb) Y w' ∧ Kp (fun j => ¬ G j) w w' := by
  refine (h.call (φ := fun (_ : Unit) e => e = .returned (.int .i64 (m.app f (bl s)).1)) (X' := fun _ => PX I d (m.app f (bl s)).2 none jb) (livePX I _ _ _ _) (fun _ => livePX I _ _ _ _) lY hG fun P hp hn => ?_).mono ?_
  · exact (app_any P d m f s w hp ok hn).mono fun e w' ⟨a, b, c⟩ => ⟨(), a, b, c⟩
  · rintro e w' ⟨_, he, ha, hk⟩
    exact ⟨he, ha, hk⟩
theorem st_dsynP (I : JI) (lY : Live Y) (hG : ∀ j, G j → j < w.heap.size) (h : Apart G (PX I d m none jb) Y w) (ok : m.Ok) (f : Int) :
    Calls Try.prog 13 #[.pointer (some ⟨d, 0, none⟩), .int .i64 f] w fun e w' => e = .returned (.int .i64 (m.syn f).1) ∧ Apart G (PX I d (m.syn f).2 none jb) Y w' ∧ Kp (fun j => ¬ G j) w w' := by
  refine (h.call (φ := fun (_ : Unit) e => e = .returned (.int .i64 (m.syn f).1)) (X' := fun _ => PX I d (m.syn f).2 none jb) (livePX I _ _ _ _) (fun _ => livePX I _ _ _ _) lY hG fun P hp hn => ?_).mono ?_
  · exact (sync_any P d m f w hp ok hn).mono fun e w' ⟨a, b, c⟩ => ⟨(), a, b, c⟩
  · rintro e w' ⟨_, he, ha, hk⟩
    exact ⟨he, ha, hk⟩
theorem st_dappR (lX : Live X) (hG : ∀ j, G j → j < w.heap.size) (h : Apart G X (RX r m none rb) w) (ok : m.Ok) (f : Int) (s : ByteArray) :
    Calls Try.prog 12 #[.pointer (some ⟨r, 0, none⟩), .int .i64 f, .string s] w fun e w' => e = .returned (.int .i64 (m.app f (bl s)).1) ∧ Apart G X (RX r (m.app f (bl s)).2 none rb) w' ∧ Kp (fun j => ¬ G j) w w' := by
  refine (h.swap.call (φ := fun (_ : Unit) e => e = .returned (.int .i64 (m.app f (bl s)).1)) (X' := fun _ => RX r (m.app f (bl s)).2 none rb) (liveRX _ _ _ _) (fun _ => liveRX _ _ _ _) lX hG fun P hp hn => ?_).mono ?_
  · exact (appR_any r m f s w hp.1 ok).mono fun e w' ⟨a, b, c⟩ => ⟨(), a, ⟨b, hp.2⟩, c.mono fun j _ e => e ▸ hp.2⟩
  · rintro e w' ⟨_, he, ha, hk⟩
    exact ⟨he, ha.swap, hk⟩
theorem st_dsynR (lX : Live X) (hG : ∀ j, G j → j < w.heap.size) (h : Apart G X (RX r m none rb) w) (ok : m.Ok) (f : Int) :
    Calls Try.prog 14 #[.pointer (some ⟨r, 0, none⟩), .int .i64 f] w fun e w' => e = .returned (.int .i64 (m.syn f).1) ∧ Apart G X (RX r (m.syn f).2 none rb) w' ∧ Kp (fun j => ¬ G j) w w' := by
  refine (h.swap.call (φ := fun (_ : Unit) e => e = .returned (.int .i64 (m.syn f).1)) (X' := fun _ => RX r (m.syn f).2 none rb) (liveRX _ _ _ _) (fun _ => liveRX _ _ _ _) lX hG fun P hp hn => ?_).mono ?_
  · exact (syncR_any r m f w hp.1 ok).mono fun e w' ⟨a, b, c⟩ => ⟨(), a, ⟨b, hp.2⟩, c.mono fun j _ e => e ▸ hp.2⟩
  · rintro e w' ⟨_, he, ha, hk⟩
    exact ⟨he, ha.swap, hk⟩
end
theorem ap_start (I : JI) {w0 w1 : World} {d q : Nat} (hB : Below w0.heap.size w0 w1) (hD : IsD (fun j => w0.heap.size ≤ j) w1 d (DM.new q)) :
    Apart (fun j => j < w0.heap.size) (PX I d (DM.new q) none 0) (RX w1.heap.size (DM.new q) none 0) (w1.alloc (.cells (rArr (DM.new q)) 48)) := by
  have hs := hB.size
  refine ⟨fun j => w0.heap.size ≤ j ∧ j < w1.heap.size, fun j => j = w1.heap.size, (IsD.weak hD fun j hj h => ⟨h, hj⟩).kept ((Kp.refl (fun _ => False) w1).alloc _) (fun _ _ _ h => h), ⟨heap_alloc_new w1 _, rfl⟩, fun j hj => ⟨by omega, by omega, by simp; omega⟩, fun j hj => ⟨by omega, by simp; omega⟩⟩

/-- both sides in a world behind another one -/
structure LJ (I : JI) (w0 wr : World) (d r : Nat) (s : DM × Option JM) (jb rb : Nat) : Prop where
  ap : Apart (fun j => j < w0.heap.size) (PX I d s.1 s.2 jb) (RX r s.1 s.2 rb) wr
  bel : Below w0.heap.size w0 wr
theorem LJ.bound {I : JI} {w0 wr : World} {d r : Nat} {s : DM × Option JM} {jb rb : Nat} (h : LJ I w0 wr d r s jb rb) : ∀ j, j < w0.heap.size → j < wr.heap.size := fun j hj => Nat.lt_of_lt_of_le hj h.bel.size
theorem below_kp {w0 wr w' : World} (h : Below w0.heap.size w0 wr) (hK : Kp (fun j => ¬ j < w0.heap.size) wr w') : Below w0.heap.size w0 w' := h.trans (hK.below h.size fun j hj hF => hF hj)
theorem LJ.later {I : JI} {w0 wr w' : World} {d r : Nat} {s : DM × Option JM} {jb rb : Nat} (h : LJ I w0 wr d r s jb rb) (hb : Below wr.heap.size wr w') : LJ I w0 w' d r s jb rb :=
  ⟨h.ap.below (livePX I _ _ _ _) (liveRX _ _ _ _) hb, h.bel.trans (hb.mono h.bel.size)⟩

/-- files that are laid ahead -/
def mfile (m : DM) (k : Nat) (s : ByteArray) : DM := ((m.app (k : Int) (bl s)).2.syn (k : Int)).2
def mfiles (m : DM) (f : Nat → ByteArray) : Nat → DM
  | 0 => m
  | k + 1 => mfile (mfiles m f k) k (f k)
theorem mfiles_ok {m : DM} (h : m.Ok) (f : Nat → ByteArray) : ∀ k, (mfiles m f k).Ok
  | 0 => h
  | k + 1 => ((mfiles_ok h f k).app _ _).syn _

set_option maxHeartbeats 8000000 in
set_option maxRecDepth 100000 in
theorem jDoes_any (I : JI) (hA : ∀ w, Calls Try.prog 7 #[] w fun e w' => e = .returned (.bool true) ∧ Below w.heap.size w w') (room : Int) (f : Nat → ByteArray) (p : Option Addr) (len cap : Nat) (ops : Nat → JOp) (w : World)
    (hr0 : -9223372036854775808 ≤ room ∧ room ≤ 9223372036854775807) (hf : ∀ k, (f k).size ≤ 140737488351232) (hrow : JopRow w p len ops) :
    Calls Try.prog 3 #[.int .i64 room, .agg #[.string (f 0), .string (f 1), .string (f 2)], .slice p len cap] w fun e w' => e = .returned (.bool true) ∧ Below w.heap.size w w' := by
  have hlen := hrow.2.1
  have hA := Lib.hid hA
  have hf0 := hf 0
  have hf1 := hf 1
  have hf2 := hf 2
  replace hf := Lib.hid hf
  have hW0 : Below w.heap.size w (w.alloc (.cells #[.string (f 0), .string (f 1), .string (f 2)] 22)) := (Below.refl _ _).alloc (Nat.le_refl _) _
  have hbox : (w.alloc (.cells #[.string (f 0), .string (f 1), .string (f 2)] 22)).heap[w.heap.size]? = some (.cells #[.string (f 0), .string (f 1), .string (f 2)] 22 (0, 0)) := heap_alloc_new w _
  have hrow0 := hrow.kept hW0
  generalize hwa : w.alloc (.cells #[.string (f 0), .string (f 1), .string (f 2)] 22) = wa at *
  generalize hB : w.heap.size = B at *
  replace hwa := Lib.hid hwa
  replace hB := Lib.hid hB
  replace hrow := Lib.hid hrow
  have hbl := obj_lt hbox
  replace hbox := Lib.hid hbox
  replace hrow0 := Lib.hid hrow0
  replace hW0 := Lib.hid hW0
  go_enter Try.func3, Try.ntmps3
  go_upto_region 1 with (fail)
  rw [hB.out]
  change Code.wp _ _ _ _ (w.alloc (.cells #[.string (f 0), .string (f 1), .string (f 2)] 22))
  rw [hwa.out]
  go_upto_region 3 with (first | (go_at_call 7; refine (hA.out _).mono ?_; rintro e w1 ⟨rfl, hB1⟩))
  have hboxw : w1.heap[B]? = some (.cells #[.string (f 0), .string (f 1), .string (f 2)] 22 (0, 0)) := (hB1.block B hbl).trans hbox.out
  have hroww := hrow0.out.kept hB1
  have hBw : Below B w w1 := hW0.out.trans (hB1.mono (by omega))
  have b0 : w1.cell? ⟨B, 0, none⟩ = some (.string (f 0)) := obj_cell hboxw rfl
  have b1 : w1.cell? ⟨B, 1, none⟩ = some (.string (f 1)) := obj_cell hboxw rfl
  have b2 : w1.cell? ⟨B, 2, none⟩ = some (.string (f 2)) := obj_cell hboxw rfl
  have hB1s := hB1.size
  have cZ := jsize_any p len cap ops w1.drew hroww
  replace hboxw := Lib.hid hboxw
  replace hroww := Lib.hid hroww
  replace hBw := Lib.hid hBw
  replace hB1 := Lib.hid hB1
  replace cZ := Lib.hid cZ
  go_cut [39] (fun s wc => (∃ nq, wc = w1.drewN nq) ∧ ∃ c : Bool, s = .bool c ∧ (c = false → len ≤ 30 ∧ jsz ops len + (f 0).size + (f 1).size + (f 2).size ≤ 4000))
  case first =>
    generalize (f 0) = F0 at *
    generalize (f 1) = F1 at *
    generalize (f 2) = F2 at *
    by_cases h30 : 30 < len
    · have h30z : (30 : Int) < (len : Int) := by omega
      go_quiet (fail)
      all_goals
        go_wp2_with fail
        go_meet
        case rel => exact ⟨⟨_, rfl⟩, true, rfl, fun h => by cases h⟩
    · have h30z : ¬ (30 : Int) < (len : Int) := by omega
      go_region_held3 (fun w' => w'.cell? ⟨B, 0, none⟩ = some (.string F0) ∧ w'.cell? ⟨B, 1, none⟩ = some (.string F1) ∧ w'.cell? ⟨B, 2, none⟩ = some (.string F2)) (first | exact ⟨b0, b1, b2⟩ | exact hHeld)
        (first | (go_at_call 8; (with_reducible refine cZ.out.mono ?_); rintro e w' ⟨⟨n, rfl, hnb, hn⟩, rfl⟩; replace hn := Lib.hid hn))
      all_goals
        go_wp2_with fail
        go_meet
        case rel => exact ⟨⟨1, rfl⟩, _, rfl, fun h => by
          have h2 := of_decide_eq_false h
          have e1 : IntKind.i64.wrap ((n : Int) + (F0.size : Int)) = (n : Int) + (F0.size : Int) := by rw [IntKind.wrap_i64] <;> omega
          have e2 : IntKind.i64.wrap ((n : Int) + (F0.size : Int) + (F1.size : Int)) = (n : Int) + (F0.size : Int) + (F1.size : Int) := by rw [IntKind.wrap_i64] <;> omega
          have e3 : IntKind.i64.wrap ((n : Int) + (F0.size : Int) + (F1.size : Int) + (F2.size : Int)) = (n : Int) + (F0.size : Int) + (F1.size : Int) + (F2.size : Int) := by rw [IntKind.wrap_i64] <;> omega
          rw [e1, e2, e3] at h2
          have h3 := hn.out (by omega)
          omega⟩
  case rest =>
    obtain ⟨⟨nq, rfl⟩, c, rfl, hc⟩ := hcut
    cases c with
    | true =>
      go_wp2_with fail
      go_ret
      exact ⟨rfl, below_dn hBw.out nq⟩
    | false =>
      obtain ⟨h30, hsz⟩ := hc rfl
      have hBW : Below B w (w1.drewN nq) := below_dn hBw.out nq
      have hboxW : (w1.drewN nq).heap[B]? = some (.cells #[.string (f 0), .string (f 1), .string (f 2)] 22 (0, 0)) := hboxw.out
      have hrowW : JopRow (w1.drewN nq) p len ops := hroww.out
      have hBlW := obj_lt hboxW
      clear hc b0 b1 b2 cZ hboxw hroww hBw hB1 hB1s hbox hrow0 hW0 hwa hbl
      generalize w1.drewN nq = W at *
      replace hBW := Lib.hid hBW
      replace hboxW := Lib.hid hboxW
      replace hrowW := Lib.hid hrowW
      replace hsz := Lib.hid hsz
      by_cases hbad : room < 0 ∨ 16777216 < room
      · have cN := newBad_any room W hbad
        have cR := newRBad_any room W hbad
        replace cN := Lib.hid cN
        replace cR := Lib.hid cR
        clear hbad hr0
        go_wp2_with (first
          | (go_at_call 9; refine cN.out.mono ?_; rintro e w' ⟨rfl, rfl⟩)
          | (go_at_call 10; refine cR.out.mono ?_; rintro e w' ⟨rfl, rfl⟩))
        go_ret
        exact ⟨rfl, hBW.out⟩
      · obtain ⟨q, rfl⟩ : ∃ q : Nat, room = (q : Int) := ⟨room.toNat, by omega⟩
        have hq : q ≤ 16777216 := by omega
        clear hbad hr0
        have cN := new_any (fun j => W.heap.size ≤ j) q W hq (fun j hj => hj)
        replace cN := Lib.hid cN
        go_wp2_with fail
        refine cN.out.mono ?_
        rintro e v1 ⟨d, rfl, hd, hD, hB1⟩
        have hLa := ap_start I hB1 hD
        have hLb : Below W.heap.size W (v1.alloc (.cells (rArr (DM.new q)) 48)) := hB1.alloc hB1.size _
        clear hB1 hD hd cN
        replace hLa := Lib.hid hLa
        replace hLb := Lib.hid hLb
        go_wp2_with fail
        refine (newR_any q _ hq).mono ?_
        rintro e v2 ⟨rfl, _, rfl⟩
        have hL : LJ I W (v1.alloc (.cells (rArr (DM.new q)) 48)) d v1.heap.size (mfiles (DM.new q) f 0, none) 0 0 := ⟨hLa.out, hLb.out⟩
        have okF := mfiles_ok (DM.new_ok q hq) f
        clear hLa hLb
        generalize v1.alloc (.cells (rArr (DM.new q)) 48) = v2 at *
        generalize v1.heap.size = r at *
        generalize DM.new q = m0 at *
        replace hL := Lib.hid hL
        replace okF := Lib.hid okF
        go_wp2_with fail
        go_loopw [62] (fun i wr => ∃ k : Nat, k ≤ 3 ∧ i = .int .i64 k ∧ Hid (LJ I W wr d r (mfiles m0 f k, none) 0 0)) (fun i _ => 3 - (intOf i).toNat)
        case atStart => exact ⟨0, by omega, rfl, hL⟩
        case round =>
          obtain ⟨k, hk, rfl, hR⟩ := hrel
          by_cases hk3 : k < 3
          · have hkz : (k : Int) < 3 := by omega
            have cb : ∀ w', Below W.heap.size W w' → w'.cell? ⟨B, k, none⟩ = some (.string (f k)) := fun w' hb => (hb.cell (p := ⟨B, k, none⟩) hBlW).trans (by
              obtain rfl | rfl | rfl : k = 0 ∨ k = 1 ∨ k = 2 := by omega
              · exact obj_cell hboxW.out rfl
              · exact obj_cell hboxW.out rfl
              · exact obj_cell hboxW.out rfl)
            have ok0 := okF.out k
            have b0 := cb _ hR.out.bel
            have hR1 := hR.out.later (Below.refl wr.heap.size wr).drew
            have c1 := st_dappP I (liveRX _ _ _ _) hR1.bound hR1.ap ok0 (k : Int) (f k)
            have hnx : mfiles m0 f (k + 1) = ((((mfiles m0 f k).app (k : Int) (bl (f k))).2.syn (k : Int)).2) := rfl
            have ok1 := ok0.app (k : Int) (bl (f k))
            have ok2 := ok1.syn (k : Int)
            have c2 := fun w' hG h => st_dappR (G := fun j => j < W.heap.size) (X := PX I d ((mfiles m0 f k).app (k : Int) (bl (f k))).2 none 0) (r := r) (rb := 0) (w := w') (livePX _ _ _ _ _) hG h ok0 (k : Int) (f k)
            have c3 := fun w' hG h => st_dsynP (G := fun j => j < W.heap.size) (d := d) (jb := 0) (w := w') I (liveRX r ((mfiles m0 f k).app (k : Int) (bl (f k))).2 none 0) hG h ok1 (k : Int)
            have c4 := fun w' hG h => st_dsynR (G := fun j => j < W.heap.size) (X := PX I d (((mfiles m0 f k).app (k : Int) (bl (f k))).2.syn (k : Int)).2 none 0) (r := r) (rb := 0) (w := w') (livePX _ _ _ _ _) hG h ok1 (k : Int)
            clear ok2 ok1 ok0
            generalize hm2 : (((mfiles m0 f k).app (k : Int) (bl (f k))).2.syn (k : Int)) = M2 at *
            generalize hm1 : (mfiles m0 f k).app (k : Int) (bl (f k)) = M1 at *
            obtain ⟨y2, m2⟩ := M2
            obtain ⟨y1, m1⟩ := M1
            replace hm1 := Lib.hid hm1
            replace hm2 := Lib.hid hm2
            replace hnx := Lib.hid hnx
            simp only at c1 c2 c3 c4
            have hb1 := hR1.bel
            replace c1 := Lib.hid c1
            replace c2 := Lib.hid c2
            replace c3 := Lib.hid c3
            replace c4 := Lib.hid c4
            replace cb := Lib.hid cb
            replace hb1 := Lib.hid hb1
            generalize hfk : f k = Fk at *
            replace hfk := Lib.hid hfk
            go_upto_region 14 with (fail)
            go_region_held3 (fun w' => w'.cell? ⟨B, k, none⟩ = some (.string Fk)) (first | exact b0 | exact hHeld | exact b0')
              (first
                | (go_at_call 11; (with_reducible refine c1.out.mono ?_); rintro e x1 ⟨rfl, ha1, hK1⟩; have hx1 := below_kp hb1.out hK1; have b0' := cb.out _ hx1; replace ha1 := Lib.hid ha1; replace hx1 := Lib.hid hx1; clear hK1)
                | (go_at_call 12; (with_reducible refine (c2.out _ (fun j hj => Nat.lt_of_lt_of_le hj hx1.out.size) ha1.out).mono ?_); rintro e x2 ⟨rfl, ha2, hK2⟩; have hx2 := below_kp hx1.out hK2; clear b0'; have b0' := cb.out _ hx2; replace ha2 := Lib.hid ha2; replace hx2 := Lib.hid hx2; clear hK2)
                | (go_at_call 13; (with_reducible refine (c3.out _ (fun j hj => Nat.lt_of_lt_of_le hj hx2.out.size) ha2.out).mono ?_); rintro e x3 ⟨rfl, ha3, hK3⟩; have hx3 := below_kp hx2.out hK3; clear b0'; have b0' := cb.out _ hx3; replace ha3 := Lib.hid ha3; replace hx3 := Lib.hid hx3; clear hK3)
                | (go_at_call 14; (with_reducible refine (c4.out _ (fun j hj => Nat.lt_of_lt_of_le hj hx3.out.size) ha3.out).mono ?_); rintro e x4 ⟨rfl, ha4, hK4⟩; have hx4 := below_kp hx3.out hK4; clear b0'; have b0' := cb.out _ hx4; replace ha4 := Lib.hid ha4; replace hx4 := Lib.hid hx4; clear hK4))
            all_goals
              have hfin : Hid (LJ I W x4 d r (mfiles m0 f (k + 1), none) 0 0) := Lib.hid ⟨by rw [hnx.out]; exact ha4.out, hx4.out⟩
              go_wp2_with fail
              go_roundw
              case rel => exact ⟨k + 1, by omega, by go_num, hfin⟩
              case measure => simp [intOf]; omega
          · obtain rfl : k = 3 := by omega
            have okM := okF.out 3
            have hR' := hR.out
            clear hk3 hk
            generalize mfiles m0 f 3 = m at *
            have bnd0 := (jok_open okM 0).bnd
            have jok0 : JOk 0 ((openJ m).2.1, (openJ m).2.2) := jok_open okM 0
            have c1 := st_openP I (liveRX _ _ _ _) hR'.bound hR'.ap okM
            have c2 := fun (jb : Nat) w' hG h => st_openR (G := fun j => j < W.heap.size) (X := PX I d (openJ m).2.1 (openJ m).2.2 jb) (r := r) (m := m) (oj := none) (rb := 0) (w := w') (livePX _ _ _ _ _) hG h okM
            have c3 := fun (jb rb : Nat) w' h => st_same (G := fun j => j < W.heap.size) (m := (openJ m).2.1) (oj := (openJ m).2.2) (d := d) (r := r) (jb := jb) (rb := rb) (w := w') I h (fun j hj => ⟨by have := (bnd0 j hj).1; omega, by have := (bnd0 j hj).2; omega⟩)
            generalize openJ m = o at *
            obtain ⟨vo, mo, oj⟩ := o
            simp only at c1 c2 c3 bnd0 jok0
            have hbR := hR'.bel
            replace hbR := Lib.hid hbR
            replace c1 := Lib.hid c1
            replace c2 := Lib.hid c2
            replace c3 := Lib.hid c3
            replace jok0 := Lib.hid jok0
            replace okM := Lib.hid okM
            clear bnd0 hR' hL hR
            go_wp2_with (first
              | (go_at_call 15; (with_reducible refine c1.out.mono ?_); rintro e x1 ⟨jb, rfl, ha1, hK1⟩; have hx1 := below_kp hbR.out hK1; replace ha1 := Lib.hid ha1; replace hx1 := Lib.hid hx1; clear hK1)
              | (go_at_call 16; (with_reducible refine (c2.out _ _ (fun j hj => Nat.lt_of_lt_of_le hj hx1.out.size) ha1.out).mono ?_); rintro e x2 ⟨rb, rfl, ha2, hK2⟩; have hx2 := below_kp hx1.out hK2; replace ha2 := Lib.hid ha2; replace hx2 := Lib.hid hx2; clear hK2)
              | (go_at_call 17; (with_reducible refine (c3.out _ _ _ ha2.out).mono ?_); rintro e x3 ⟨rfl, ha3, hb3⟩; have hx3 := hx2.out.trans (hb3.mono hx2.out.size); replace ha3 := Lib.hid ha3; replace hx3 := Lib.hid hx3; clear hb3))
            have hL0 : Hid (LJ I W x3 d r (jrun (mo, oj) ops 0) jb rb) := Lib.hid ⟨ha3.out, hx3.out⟩
            clear c1 c2 c3 ha1 hx1 ha2 hx2 ha3 hx3
            go_loopw [12, 14, 110] (fun jv rv i wr => ∃ k jb rb : Nat, k ≤ len ∧ i = .int .i64 k ∧ jv = jp (jrun (mo, oj) ops k).2 jb ∧ rv = jp (jrun (mo, oj) ops k).2 rb ∧ Hid (LJ I W wr d r (jrun (mo, oj) ops k) jb rb)) (fun _ _ i _ => len - (intOf i).toNat)
            case atStart => exact ⟨0, jb, rb, by omega, rfl, rfl, rfl, hL0⟩
            case round =>
              obtain ⟨k, jb, rb, hk, rfl, rfl, rfl, hR⟩ := hrel
              by_cases hkl : k < len
              · have kz : (k : Int) < (len : Int) := by omega
                obtain ⟨b, off, rfl, hblt, hcell⟩ := hrowW.out.2.2.resolve_left (by omega)
                have hcw : ∀ j, j < 7 → wr.cell? ⟨b, off + k * 7 + j, none⟩ = (ops k).arr[j]? := fun j hj => (hR.out.bel.cell (p := ⟨b, off + k * 7 + j, none⟩) hblt).trans (hcell k hkl j hj)
                have c0 : wr.cell? ⟨b, off + k * 7, none⟩ = some (.int .i64 (ops k).Do) := hcw 0 (by omega)
                have c1 : wr.cell? ⟨b, off + k * 7 + 1, none⟩ = some (.int .i64 (ops k).N) := hcw 1 (by omega)
                have c2 : wr.cell? ⟨b, off + k * 7 + 2, none⟩ = some (.string (ops k).Bs) := hcw 2 (by omega)
                have c3 : wr.cell? ⟨b, off + k * 7 + 3, none⟩ = some (.int .i64 ((ops k).K 0)) := hcw 3 (by omega)
                have c4 : wr.cell? ⟨b, off + k * 7 + 4, none⟩ = some (.int .i64 ((ops k).K 1)) := hcw 4 (by omega)
                have c5 : wr.cell? ⟨b, off + k * 7 + 5, none⟩ = some (.int .i64 ((ops k).K 2)) := hcw 5 (by omega)
                have c6 : wr.cell? ⟨b, off + k * 7 + 6, none⟩ = some (.int .i64 ((ops k).K 3)) := hcw 6 (by omega)
                have hx := (hrowW.out.1 k).1
                have hbs : (ops k).Bs.size ≤ 4000 := by
                  have h1 := jsz_mono ops (k + 1) (len - (k + 1))
                  rw [show k + 1 + (len - (k + 1)) = len by omega, jsz] at h1
                  have := hsz.out
                  omega
                have hjk := jok0.out.run (fun i => (hrowW.out.1 i).1) k
                have hnx : jrun (mo, oj) ops (k + 1) = jstep (jrun (mo, oj) ops k) (ops k) := rfl
                have hjn := jok0.out.run (fun i => (hrowW.out.1 i).1) (k + 1)
                rw [hnx] at hjn
                have hLR := hR.out
                clear hcw hcell
                generalize jrun (mo, oj) ops k = s at *
                obtain ⟨ms, os⟩ := s
                generalize hopk : ops k = x at *
                replace hopk := Lib.hid hopk
                replace hnx := Lib.hid hnx
                simp only at hjk hLR ⊢
                have hbW := hLR.bel.size
                have hAp : Apart (fun j => j < W.heap.size ∨ j = wr.heap.size) (PX I d ms os jb) (RX r ms os rb) (wr.alloc (.cells x.arr 44)) := hLR.ap.more (livePX _ _ _ _ _) (liveRX _ _ _ _) ((Below.refl _ wr).alloc (Nat.le_refl _) _) (fun j hj hg => by rcases hg with hg | hg <;> omega)
                have hGG : ∀ j, (j < W.heap.size ∨ j = wr.heap.size) → j < (wr.alloc (.cells x.arr 44)).heap.size := fun j hj => by simp; omega
                have hxb : (wr.alloc (.cells x.arr 44)).heap[wr.heap.size]? = some (.cells x.arr 44 (0, 0)) := heap_alloc_new wr _
                have hfin : ∀ w' m' o' jb' rb', Apart (fun j => j < W.heap.size ∨ j = wr.heap.size) (PX I d m' o' jb') (RX r m' o' rb') w' → Kp (fun j => ¬ (j < W.heap.size ∨ j = wr.heap.size)) (wr.alloc (.cells x.arr 44)) w' → LJ I W w' d r (m', o') jb' rb' := fun w' m' o' jb' rb' ha hk =>
                  ⟨ha.more (livePX _ _ _ _ _) (liveRX _ _ _ _) (Below.refl _ _) (fun j _ hj => .inl hj), (hLR.bel.alloc hbW _).trans (hk.below (by simp; omega) fun j hj hF => hF (.inl hj))⟩
                unfold JOp.arr at hAp hGG hxb hfin
                generalize hv : wr.alloc (.cells #[.int .i64 x.Do, .int .i64 x.N, .string x.Bs, .int .i64 (x.K 0), .int .i64 (x.K 1), .int .i64 (x.K 2), .int .i64 (x.K 3)] 44) = v at *
                generalize hg : wr.heap.size = g at *
                have hkeep : ∀ w', Kp (fun j => ¬ (j < W.heap.size ∨ j = g)) v w' → w'.heap[g]? = some (.cells #[.int .i64 x.Do, .int .i64 x.N, .string x.Bs, .int .i64 (x.K 0), .int .i64 (x.K 1), .int .i64 (x.K 2), .int .i64 (x.K 3)] 44 (0, 0)) := fun w' hk => (hk.block g (obj_lt hxb) (fun h => h (.inr rfl))).trans hxb
                have d0 : v.cell? ⟨g, 0, none⟩ = some (.int .i64 x.Do) := obj_cell hxb rfl
                have d1 : v.cell? ⟨g, 1, none⟩ = some (.int .i64 x.N) := obj_cell hxb rfl
                replace hv := Lib.hid hv
                replace hg := Lib.hid hg
                replace hxb := Lib.hid hxb
                replace hfin := Lib.hid hfin
                replace hkeep := Lib.hid hkeep
                replace hAp := Lib.hid hAp
                replace hGG := Lib.hid hGG
                replace hjk := Lib.hid hjk
                replace hjn := Lib.hid hjn
                replace hx := Lib.hid hx
                have hRf := hR
                clear hR hLR
                go_upto_region 24 with (fail)
                rw [hg.out]
                change Code.wp _ _ _ _ (wr.alloc (.cells #[.int .i64 x.Do, .int .i64 x.N, .string x.Bs, .int .i64 (x.K 0), .int .i64 (x.K 1), .int .i64 (x.K 2), .int .i64 (x.K 3)] 44))
                rw [hv.out]
                by_cases e2 : x.Do = 2
                · have hd2 : (x.Do == 2) = true := by simp [e2]
                  have cF := st_fuseP I (liveRX _ _ _ _) hGG.out hAp.out x.N
                  have hst : jstep (ms, os) x = (ms.setf x.N, os) := by unfold jstep; rw [if_pos e2]
                  replace cF := Lib.hid cF
                  replace hst := Lib.hid hst
                  replace e2 := Lib.hid e2
                  go_upto_region 27 with (first | (go_at_call 18; (with_reducible refine cF.out.mono ?_); rintro e x1 ⟨rfl, ha1, hK1⟩))
                  have hG1 : ∀ j, (j < W.heap.size ∨ j = g) → j < x1.heap.size := fun j hj => Nat.lt_of_lt_of_le (hGG.out j hj) hK1.size
                  have hb1 := hkeep.out _ hK1
                  have f1 : x1.cell? ⟨g, 1, none⟩ = some (.int .i64 x.N) := obj_cell hb1 rfl
                  have hIR : IsR x1 r ms := by obtain ⟨_, _, _, hY, _⟩ := ha1; exact hY.disk.1
                  have f9 : x1.cell? ⟨r, 9, none⟩ = some (.int .i64 ms.fuse) := obj_cell hIR rfl
                  have z9 := obj_free hIR
                  obtain ⟨ha2, hK2⟩ := st_fuseR (livePX _ _ _ _ _) hG1 ha1 x.N
                  have hL2 := hfin.out _ _ _ _ _ ha2 (hK1.trans hK2)
                  rw [← hst.out, ← hnx.out] at hL2
                  replace hL2 := Lib.hid hL2
                  replace hb1 := Lib.hid hb1
                  replace hIR := Lib.hid hIR
                  clear ha2 hK2 ha1 hK1
                  replace hG1 := Lib.hid hG1
                  go_wp2_with fail
                  go_roundw
                  case rel => exact ⟨k + 1, jb, rb, by omega, by go_num, by rw [hnx.out, hst.out], by rw [hnx.out, hst.out], hL2⟩
                  case measure => simp [intOf]; omega
                · have hd2 : (x.Do == 2) = false := by simpa using e2
                  by_cases e3 : x.Do = 3
                  · have hd3 : (x.Do == 3) = true := by simp [e3]
                    have hge : (3 : Int) ≤ x.Do := by omega
                    have okM' := hjk.out.ok
                    simp only at okM'
                    have okC := okM'.crash (x.K 0) (x.K 1) (x.K 2) (x.K 3)
                    have hst : jstep (ms, os) x = ((openJ (ms.crash (x.K 0) (x.K 1) (x.K 2) (x.K 3))).2.1, (openJ (ms.crash (x.K 0) (x.K 1) (x.K 2) (x.K 3))).2.2) := by
                      unfold jstep
                      rw [if_neg e2, if_pos e3]
                      cases os with
                      | none => rfl
                      | some j => simp only; rw [if_pos (.inl hge)]
                    have cP := st_crashP I (liveRX _ _ _ _) hGG.out hAp.out okM' x.K hx.out.k
                    have cR := fun w' hG h => st_crashR (G := fun j => j < W.heap.size ∨ j = g) (X := PX I d (ms.crash (x.K 0) (x.K 1) (x.K 2) (x.K 3)) none jb) (r := r) (m := ms) (oj := os) (rb := rb) (w := w') (livePX _ _ _ _ _) hG h okM' x.K hx.out.k
                    have d3 : v.cell? ⟨g, 3, none⟩ = some (.int .i64 (x.K 0)) := obj_cell hxb.out rfl
                    have d4 : v.cell? ⟨g, 4, none⟩ = some (.int .i64 (x.K 1)) := obj_cell hxb.out rfl
                    have d5 : v.cell? ⟨g, 5, none⟩ = some (.int .i64 (x.K 2)) := obj_cell hxb.out rfl
                    have d6 : v.cell? ⟨g, 6, none⟩ = some (.int .i64 (x.K 3)) := obj_cell hxb.out rfl
                    generalize hMC : (ms.crash (x.K 0) (x.K 1) (x.K 2) (x.K 3)) = mc at *
                    replace hMC := Lib.hid hMC
                    replace cP := Lib.hid cP
                    replace cR := Lib.hid cR
                    replace okM' := Lib.hid okM'
                    replace e2 := Lib.hid e2
                    replace e3 := Lib.hid e3
                    have c15 := fun w' hG h => st_openP (G := fun j => j < W.heap.size ∨ j = g) (Y := RX r mc none rb) (d := d) (m := mc) (oj := none) (jb := jb) (w := w') I (liveRX _ _ _ _) hG h okC
                    have c16 := fun (jb' : Nat) w' hG h => st_openR (G := fun j => j < W.heap.size ∨ j = g) (X := PX I d (openJ mc).2.1 (openJ mc).2.2 jb') (r := r) (m := mc) (oj := none) (rb := rb) (w := w') (livePX _ _ _ _ _) hG h okC
                    have bndC := (jok_open okC (k + 1)).bnd
                    have c17 := fun (jb' rb' : Nat) w' h => st_same (G := fun j => j < W.heap.size ∨ j = g) (m := (openJ mc).2.1) (oj := (openJ mc).2.2) (d := d) (r := r) (jb := jb') (rb := rb') (w := w') I h (fun j hj => ⟨by have := (bndC j hj).1; omega, by have := (bndC j hj).2; omega⟩)
                    generalize openJ mc = o2' at *
                    obtain ⟨vo2, mo2, oj2⟩ := o2'
                    simp only at c15 c16 c17 bndC hst
                    clear bndC
                    replace c15 := Lib.hid c15
                    replace c16 := Lib.hid c16
                    replace c17 := Lib.hid c17
                    replace hst := Lib.hid hst
                    replace okC := Lib.hid okC
                    go_wp2_with (first
                      | (go_at_call 19; (with_reducible refine cP.out.mono ?_); rintro e x1 ⟨rfl, ha1, hK1⟩; have hbx := hkeep.out _ hK1; have f0 : x1.cell? ⟨g, 0, none⟩ = some (.int .i64 x.Do) := obj_cell hbx rfl; have f3 : x1.cell? ⟨g, 3, none⟩ = some (.int .i64 (x.K 0)) := obj_cell hbx rfl; have f4 : x1.cell? ⟨g, 4, none⟩ = some (.int .i64 (x.K 1)) := obj_cell hbx rfl; have f5 : x1.cell? ⟨g, 5, none⟩ = some (.int .i64 (x.K 2)) := obj_cell hbx rfl; have f6 : x1.cell? ⟨g, 6, none⟩ = some (.int .i64 (x.K 3)) := obj_cell hbx rfl; replace ha1 := Lib.hid ha1; replace hK1 := Lib.hid hK1; clear hbx)
                      | (go_at_call 20; (with_reducible refine (cR.out _ (fun j hj => Nat.lt_of_lt_of_le (hGG.out j hj) hK1.out.size) ha1.out).mono ?_); rintro e x2 ⟨rfl, haC, hK2⟩; have hkC := hK1.out.trans hK2; have hbx := hkeep.out _ hkC; have g0 : x2.cell? ⟨g, 0, none⟩ = some (.int .i64 x.Do) := obj_cell hbx rfl; replace haC := Lib.hid haC; replace hkC := Lib.hid hkC; clear hbx hK2)
                      | (go_at_call 15; (with_reducible refine (c15.out _ (fun j hj => Nat.lt_of_lt_of_le (hGG.out j hj) hkC.out.size) haC.out).mono ?_); rintro e y1 ⟨jb', rfl, hb1, hK1⟩; have hk1 := hkC.out.trans hK1; replace hb1 := Lib.hid hb1; replace hk1 := Lib.hid hk1; clear hK1)
                      | (go_at_call 16; (with_reducible refine (c16.out _ _ (fun j hj => Nat.lt_of_lt_of_le (hGG.out j hj) hk1.out.size) hb1.out).mono ?_); rintro e y2 ⟨rb', rfl, hb2, hK2⟩; have hk2 := hk1.out.trans hK2; replace hb2 := Lib.hid hb2; replace hk2 := Lib.hid hk2; clear hK2)
                      | (go_at_call 17; (with_reducible refine (c17.out _ _ _ hb2.out).mono ?_); rintro e y3 ⟨rfl, hb3, hB3⟩; have hk3 := hk2.out.trans (Kp.of_below hB3); replace hb3 := Lib.hid hb3; replace hk3 := Lib.hid hk3; clear hB3))
                    have hL2 := hfin.out _ _ _ _ _ hb3.out hk3.out
                    rw [← hst.out, ← hnx.out] at hL2
                    replace hL2 := Lib.hid hL2
                    go_roundw
                    case rel => exact ⟨k + 1, jb', rb', by omega, by go_num, by rw [hnx.out, hst.out], by rw [hnx.out, hst.out], hL2⟩
                    case measure => simp [intOf]; omega
                  · have hd3 : (x.Do == 3) = false := by simpa using e3
                    by_cases e4 : 3 ≤ x.Do
                    · have hst : jstep (ms, os) x = ((openJ ms).2.1, (openJ ms).2.2) := by
                        unfold jstep
                        rw [if_neg e2, if_neg e3]
                        cases os with
                        | none => rfl
                        | some j => simp only; rw [if_pos (by omega)]
                      have hge : (3 : Int) ≤ x.Do := by omega
                      have okC := hjk.out.ok
                      simp only at okC
                      have hkC : Hid (Kp (fun j => ¬ (j < W.heap.size ∨ j = g)) v v) := Lib.hid (Kp.refl _ _)
                      replace e2 := Lib.hid e2
                      replace e3 := Lib.hid e3
                      have c15 := fun w' hG h => st_openP (G := fun j => j < W.heap.size ∨ j = g) (Y := RX r ms os rb) (d := d) (m := ms) (oj := os) (jb := jb) (w := w') I (liveRX _ _ _ _) hG h okC
                      have c16 := fun (jb' : Nat) w' hG h => st_openR (G := fun j => j < W.heap.size ∨ j = g) (X := PX I d (openJ ms).2.1 (openJ ms).2.2 jb') (r := r) (m := ms) (oj := os) (rb := rb) (w := w') (livePX _ _ _ _ _) hG h okC
                      have bndC := (jok_open okC (k + 1)).bnd
                      have c17 := fun (jb' rb' : Nat) w' h => st_same (G := fun j => j < W.heap.size ∨ j = g) (m := (openJ ms).2.1) (oj := (openJ ms).2.2) (d := d) (r := r) (jb := jb') (rb := rb') (w := w') I h (fun j hj => ⟨by have := (bndC j hj).1; omega, by have := (bndC j hj).2; omega⟩)
                      generalize openJ ms = o2' at *
                      obtain ⟨vo2, mo2, oj2⟩ := o2'
                      simp only at c15 c16 c17 bndC hst
                      clear bndC
                      replace c15 := Lib.hid c15
                      replace c16 := Lib.hid c16
                      replace c17 := Lib.hid c17
                      replace hst := Lib.hid hst
                      replace okC := Lib.hid okC
                      go_wp2_with (first
                        | (go_at_call 15; (with_reducible refine (c15.out _ (fun j hj => Nat.lt_of_lt_of_le (hGG.out j hj) hkC.out.size) hAp.out).mono ?_); rintro e y1 ⟨jb', rfl, hb1, hK1⟩; have hk1 := hkC.out.trans hK1; replace hb1 := Lib.hid hb1; replace hk1 := Lib.hid hk1; clear hK1)
                        | (go_at_call 16; (with_reducible refine (c16.out _ _ (fun j hj => Nat.lt_of_lt_of_le (hGG.out j hj) hk1.out.size) hb1.out).mono ?_); rintro e y2 ⟨rb', rfl, hb2, hK2⟩; have hk2 := hk1.out.trans hK2; replace hb2 := Lib.hid hb2; replace hk2 := Lib.hid hk2; clear hK2)
                        | (go_at_call 17; (with_reducible refine (c17.out _ _ _ hb2.out).mono ?_); rintro e y3 ⟨rfl, hb3, hB3⟩; have hk3 := hk2.out.trans (Kp.of_below hB3); replace hb3 := Lib.hid hb3; replace hk3 := Lib.hid hk3; clear hB3))
                      have hL2 := hfin.out _ _ _ _ _ hb3.out hk3.out
                      rw [← hst.out, ← hnx.out] at hL2
                      replace hL2 := Lib.hid hL2
                      go_roundw
                      case rel => exact ⟨k + 1, jb', rb', by omega, by go_num, by rw [hnx.out, hst.out], by rw [hnx.out, hst.out], hL2⟩
                      case measure => simp [intOf]; omega
                    · by_cases e5 : x.Do < 0
                      · have hst : jstep (ms, os) x = ((openJ ms).2.1, (openJ ms).2.2) := by
                          unfold jstep
                          rw [if_neg e2, if_neg e3]
                          cases os with
                          | none => rfl
                          | some j => simp only; rw [if_pos (by omega)]
                        have hge : ¬ (3 : Int) ≤ x.Do := by omega
                        have hlz : x.Do < 0 := by omega
                        have okC := hjk.out.ok
                        simp only at okC
                        have hkC : Hid (Kp (fun j => ¬ (j < W.heap.size ∨ j = g)) v v) := Lib.hid (Kp.refl _ _)
                        replace e2 := Lib.hid e2
                        replace e3 := Lib.hid e3
                        have c15 := fun w' hG h => st_openP (G := fun j => j < W.heap.size ∨ j = g) (Y := RX r ms os rb) (d := d) (m := ms) (oj := os) (jb := jb) (w := w') I (liveRX _ _ _ _) hG h okC
                        have c16 := fun (jb' : Nat) w' hG h => st_openR (G := fun j => j < W.heap.size ∨ j = g) (X := PX I d (openJ ms).2.1 (openJ ms).2.2 jb') (r := r) (m := ms) (oj := os) (rb := rb) (w := w') (livePX _ _ _ _ _) hG h okC
                        have bndC := (jok_open okC (k + 1)).bnd
                        have c17 := fun (jb' rb' : Nat) w' h => st_same (G := fun j => j < W.heap.size ∨ j = g) (m := (openJ ms).2.1) (oj := (openJ ms).2.2) (d := d) (r := r) (jb := jb') (rb := rb') (w := w') I h (fun j hj => ⟨by have := (bndC j hj).1; omega, by have := (bndC j hj).2; omega⟩)
                        generalize openJ ms = o2' at *
                        obtain ⟨vo2, mo2, oj2⟩ := o2'
                        simp only at c15 c16 c17 bndC hst
                        clear bndC
                        replace c15 := Lib.hid c15
                        replace c16 := Lib.hid c16
                        replace c17 := Lib.hid c17
                        replace hst := Lib.hid hst
                        replace okC := Lib.hid okC
                        go_wp2_with (first
                          | (go_at_call 15; (with_reducible refine (c15.out _ (fun j hj => Nat.lt_of_lt_of_le (hGG.out j hj) hkC.out.size) hAp.out).mono ?_); rintro e y1 ⟨jb', rfl, hb1, hK1⟩; have hk1 := hkC.out.trans hK1; replace hb1 := Lib.hid hb1; replace hk1 := Lib.hid hk1; clear hK1)
                          | (go_at_call 16; (with_reducible refine (c16.out _ _ (fun j hj => Nat.lt_of_lt_of_le (hGG.out j hj) hk1.out.size) hb1.out).mono ?_); rintro e y2 ⟨rb', rfl, hb2, hK2⟩; have hk2 := hk1.out.trans hK2; replace hb2 := Lib.hid hb2; replace hk2 := Lib.hid hk2; clear hK2)
                          | (go_at_call 17; (with_reducible refine (c17.out _ _ _ hb2.out).mono ?_); rintro e y3 ⟨rfl, hb3, hB3⟩; have hk3 := hk2.out.trans (Kp.of_below hB3); replace hb3 := Lib.hid hb3; replace hk3 := Lib.hid hk3; clear hB3))
                        have hL2 := hfin.out _ _ _ _ _ hb3.out hk3.out
                        rw [← hst.out, ← hnx.out] at hL2
                        replace hL2 := Lib.hid hL2
                        go_roundw
                        case rel => exact ⟨k + 1, jb', rb', by omega, by go_num, by rw [hnx.out, hst.out], by rw [hnx.out, hst.out], hL2⟩
                        case measure => simp [intOf]; omega
                      · have hge : ¬ (3 : Int) ≤ x.Do := by omega
                        have hlz : ¬ x.Do < 0 := by omega
                        cases os with
                        | none =>
                          rw [show jp none jb = .pointer none from rfl, show jp none rb = .pointer none from rfl]
                          have hst : jstep (ms, none) x = ((openJ ms).2.1, (openJ ms).2.2) := by
                            unfold jstep
                            rw [if_neg e2, if_neg e3]
                          have hge : ¬ (3 : Int) ≤ x.Do := by omega
                          have hlz : ¬ x.Do < 0 := by omega
                          have okC := hjk.out.ok
                          simp only at okC
                          have hkC : Hid (Kp (fun j => ¬ (j < W.heap.size ∨ j = g)) v v) := Lib.hid (Kp.refl _ _)
                          replace e2 := Lib.hid e2
                          replace e3 := Lib.hid e3
                          have c15 := fun w' hG h => st_openP (G := fun j => j < W.heap.size ∨ j = g) (Y := RX r ms none rb) (d := d) (m := ms) (oj := none) (jb := jb) (w := w') I (liveRX _ _ _ _) hG h okC
                          have c16 := fun (jb' : Nat) w' hG h => st_openR (G := fun j => j < W.heap.size ∨ j = g) (X := PX I d (openJ ms).2.1 (openJ ms).2.2 jb') (r := r) (m := ms) (oj := none) (rb := rb) (w := w') (livePX _ _ _ _ _) hG h okC
                          have bndC := (jok_open okC (k + 1)).bnd
                          have c17 := fun (jb' rb' : Nat) w' h => st_same (G := fun j => j < W.heap.size ∨ j = g) (m := (openJ ms).2.1) (oj := (openJ ms).2.2) (d := d) (r := r) (jb := jb') (rb := rb') (w := w') I h (fun j hj => ⟨by have := (bndC j hj).1; omega, by have := (bndC j hj).2; omega⟩)
                          generalize openJ ms = o2' at *
                          obtain ⟨vo2, mo2, oj2⟩ := o2'
                          simp only at c15 c16 c17 bndC hst
                          clear bndC
                          replace c15 := Lib.hid c15
                          replace c16 := Lib.hid c16
                          replace c17 := Lib.hid c17
                          replace hst := Lib.hid hst
                          replace okC := Lib.hid okC
                          go_wp2_with (first
                            | (go_at_call 15; (with_reducible refine (c15.out _ (fun j hj => Nat.lt_of_lt_of_le (hGG.out j hj) hkC.out.size) hAp.out).mono ?_); rintro e y1 ⟨jb', rfl, hb1, hK1⟩; have hk1 := hkC.out.trans hK1; replace hb1 := Lib.hid hb1; replace hk1 := Lib.hid hk1; clear hK1)
                            | (go_at_call 16; (with_reducible refine (c16.out _ _ (fun j hj => Nat.lt_of_lt_of_le (hGG.out j hj) hk1.out.size) hb1.out).mono ?_); rintro e y2 ⟨rb', rfl, hb2, hK2⟩; have hk2 := hk1.out.trans hK2; replace hb2 := Lib.hid hb2; replace hk2 := Lib.hid hk2; clear hK2)
                            | (go_at_call 17; (with_reducible refine (c17.out _ _ _ hb2.out).mono ?_); rintro e y3 ⟨rfl, hb3, hB3⟩; have hk3 := hk2.out.trans (Kp.of_below hB3); replace hb3 := Lib.hid hb3; replace hk3 := Lib.hid hk3; clear hB3))
                          have hL2 := hfin.out _ _ _ _ _ hb3.out hk3.out
                          rw [← hst.out, ← hnx.out] at hL2
                          replace hL2 := Lib.hid hL2
                          go_roundw
                          case rel => exact ⟨k + 1, jb', rb', by omega, by go_num, by rw [hnx.out, hst.out], by rw [hnx.out, hst.out], hL2⟩
                          case measure => simp [intOf]; omega
                        | some j =>
                          rw [show jp (some j) jb = .pointer (some ⟨jb, 0, none⟩) from rfl, show jp (some j) rb = .pointer (some ⟨rb, 0, none⟩) from rfl]
                          by_cases e0 : x.Do = 0
                          · have hd0 : (x.Do == 0) = true := by simp [e0]
                            have hst : jstep (ms, some j) x = ((appJ ms j (bl x.Bs)).2.1, some (appJ ms j (bl x.Bs)).2.2) := by
                              unfold jstep
                              rw [if_neg e2, if_neg e3]
                              simp only
                              rw [if_neg (by omega), if_pos e0]
                            have okM' := hjk.out.ok
                            have bj := hjk.out.bnd j rfl
                            have bn := hjn.out.bnd (appJ ms j (bl x.Bs)).2.2 (by rw [hst])
                            simp only at okM' bj
                            have haD := hAp.out.below (livePX _ _ _ _ _) (liveRX _ _ _ _) (Below.refl v.heap.size v).drew
                            have hGD : ∀ j, (j < W.heap.size ∨ j = g) → j < v.drew.heap.size := hGG.out
                            have cP := st_appP I (liveRX _ _ _ _) hGD haD okM' x.Bs (by omega) (by omega) (by omega)
                            have cR := fun w' hG h => st_appR (G := fun j => j < W.heap.size ∨ j = g) (X := PX I d (appJ ms j (bl x.Bs)).2.1 (some (appJ ms j (bl x.Bs)).2.2) jb) (r := r) (m := ms) (j := j) (rb := rb) (w := w') (livePX _ _ _ _ _) hG h okM' x.Bs (by omega) (by omega) (by omega)
                            have c17 := fun w' h => st_same (G := fun j => j < W.heap.size ∨ j = g) (m := (appJ ms j (bl x.Bs)).2.1) (oj := some (appJ ms j (bl x.Bs)).2.2) (d := d) (r := r) (jb := jb) (rb := rb) (w := w') I h (fun i hi => by injection hi with hi; subst hi; exact ⟨by omega, by omega⟩)
                            have hkD : Kp (fun j => ¬ (j < W.heap.size ∨ j = g)) v v.drew := (Kp.refl _ _).drew
                            have d2 : v.cell? ⟨g, 2, none⟩ = some (.string x.Bs) := obj_cell hxb.out rfl
                            have d2' : v.drew.cell? ⟨g, 2, none⟩ = some (.string x.Bs) := d2
                            clear haD bj bn
                            generalize appJ ms j (bl x.Bs) = o at *
                            obtain ⟨vo, m', j'⟩ := o
                            simp only at hst cP cR c17
                            simp only [jp] at c17
                            replace hst := Lib.hid hst
                            replace cP := Lib.hid cP
                            replace cR := Lib.hid cR
                            replace c17 := Lib.hid c17
                            replace hkD := Lib.hid hkD
                            replace hGD := Lib.hid hGD
                            replace okM' := Lib.hid okM'
                            replace e2 := Lib.hid e2
                            replace e3 := Lib.hid e3
                            replace e0 := Lib.hid e0
                            go_upto_region 37 with (fail)
                            go_region_held3 (fun w' => w'.cell? ⟨g, 2, none⟩ = some (.string x.Bs)) (first | exact d2 | exact d2' | exact hHeld | exact f2)
                              (first
                                | (go_at_call 21; (with_reducible refine cP.out.mono ?_); rintro e x1 ⟨rfl, ha1, hK1⟩; have hk1 := hkD.out.trans hK1; have f2 : x1.cell? ⟨g, 2, none⟩ = some (.string x.Bs) := obj_cell (hkeep.out _ hk1) rfl; replace ha1 := Lib.hid ha1; replace hk1 := Lib.hid hk1; clear hK1)
                                | (go_at_call 22; (with_reducible refine (cR.out _ (fun j hj => Nat.lt_of_lt_of_le (hGG.out j hj) hk1.out.size) ha1.out).mono ?_); rintro e x2 ⟨rfl, ha2, hK2⟩; have hk2 := hk1.out.trans hK2; clear f2; have f2 : x2.cell? ⟨g, 2, none⟩ = some (.string x.Bs) := obj_cell (hkeep.out _ hk2) rfl; replace ha2 := Lib.hid ha2; replace hk2 := Lib.hid hk2; clear hK2))
                            all_goals
                              go_wp2_with (first
                                | (go_at_call 17; (with_reducible refine (c17.out _ ha2.out).mono ?_); rintro e y3 ⟨rfl, hb3, hB3⟩; have hk3 := hk2.out.trans (Kp.of_below hB3); replace hb3 := Lib.hid hb3; replace hk3 := Lib.hid hk3; clear hB3))
                              have hL2 := hfin.out _ _ _ _ _ hb3.out hk3.out
                              rw [← hst.out, ← hnx.out] at hL2
                              replace hL2 := Lib.hid hL2
                              go_roundw
                              case rel => exact ⟨k + 1, jb, rb, by omega, by go_num, by rw [hnx.out, hst.out]; rfl, by rw [hnx.out, hst.out]; rfl, hL2⟩
                              case measure => simp [intOf]; omega
                          · have hd0 : (x.Do == 0) = false := by simpa using e0
                            have hst : jstep (ms, some j) x = ((snapJ ms j (bl x.Bs)).2.1, some (snapJ ms j (bl x.Bs)).2.2) := by
                              unfold jstep
                              rw [if_neg e2, if_neg e3]
                              simp only
                              rw [if_neg (by omega), if_neg e0]
                            have okM' := hjk.out.ok
                            have bj := hjk.out.bnd j rfl
                            have bn := hjn.out.bnd (snapJ ms j (bl x.Bs)).2.2 (by rw [hst])
                            simp only at okM' bj
                            have haD := hAp.out.below (livePX _ _ _ _ _) (liveRX _ _ _ _) (Below.refl v.heap.size v).drew
                            have hGD : ∀ j, (j < W.heap.size ∨ j = g) → j < v.drew.heap.size := hGG.out
                            have cP := st_snapP I (liveRX _ _ _ _) hGD haD okM' x.Bs (by omega) (by omega)
                            have cR := fun w' hG h => st_snapR (G := fun j => j < W.heap.size ∨ j = g) (X := PX I d (snapJ ms j (bl x.Bs)).2.1 (some (snapJ ms j (bl x.Bs)).2.2) jb) (r := r) (m := ms) (j := j) (rb := rb) (w := w') (livePX _ _ _ _ _) hG h okM' x.Bs (by omega) (by omega)
                            have c17 := fun w' h => st_same (G := fun j => j < W.heap.size ∨ j = g) (m := (snapJ ms j (bl x.Bs)).2.1) (oj := some (snapJ ms j (bl x.Bs)).2.2) (d := d) (r := r) (jb := jb) (rb := rb) (w := w') I h (fun i hi => by injection hi with hi; subst hi; exact ⟨by omega, by omega⟩)
                            have hkD : Kp (fun j => ¬ (j < W.heap.size ∨ j = g)) v v.drew := (Kp.refl _ _).drew
                            have d2 : v.cell? ⟨g, 2, none⟩ = some (.string x.Bs) := obj_cell hxb.out rfl
                            have d2' : v.drew.cell? ⟨g, 2, none⟩ = some (.string x.Bs) := d2
                            clear haD bj bn
                            generalize snapJ ms j (bl x.Bs) = o at *
                            obtain ⟨vo, m', j'⟩ := o
                            simp only at hst cP cR c17
                            simp only [jp] at c17
                            replace hst := Lib.hid hst
                            replace cP := Lib.hid cP
                            replace cR := Lib.hid cR
                            replace c17 := Lib.hid c17
                            replace hkD := Lib.hid hkD
                            replace hGD := Lib.hid hGD
                            replace okM' := Lib.hid okM'
                            replace e2 := Lib.hid e2
                            replace e3 := Lib.hid e3
                            replace e0 := Lib.hid e0
                            go_upto_region 38 with (fail)
                            go_region_held3 (fun w' => w'.cell? ⟨g, 2, none⟩ = some (.string x.Bs)) (first | exact d2 | exact d2' | exact hHeld | exact f2)
                              (first
                                | (go_at_call 23; (with_reducible refine cP.out.mono ?_); rintro e x1 ⟨rfl, ha1, hK1⟩; have hk1 := hkD.out.trans hK1; have f2 : x1.cell? ⟨g, 2, none⟩ = some (.string x.Bs) := obj_cell (hkeep.out _ hk1) rfl; replace ha1 := Lib.hid ha1; replace hk1 := Lib.hid hk1; clear hK1)
                                | (go_at_call 24; (with_reducible refine (cR.out _ (fun j hj => Nat.lt_of_lt_of_le (hGG.out j hj) hk1.out.size) ha1.out).mono ?_); rintro e x2 ⟨rfl, ha2, hK2⟩; have hk2 := hk1.out.trans hK2; clear f2; have f2 : x2.cell? ⟨g, 2, none⟩ = some (.string x.Bs) := obj_cell (hkeep.out _ hk2) rfl; replace ha2 := Lib.hid ha2; replace hk2 := Lib.hid hk2; clear hK2))
                            all_goals
                              go_wp2_with (first
                                | (go_at_call 17; (with_reducible refine (c17.out _ ha2.out).mono ?_); rintro e y3 ⟨rfl, hb3, hB3⟩; have hk3 := hk2.out.trans (Kp.of_below hB3); replace hb3 := Lib.hid hb3; replace hk3 := Lib.hid hk3; clear hB3))
                              have hL2 := hfin.out _ _ _ _ _ hb3.out hk3.out
                              rw [← hst.out, ← hnx.out] at hL2
                              replace hL2 := Lib.hid hL2
                              go_roundw
                              case rel => exact ⟨k + 1, jb, rb, by omega, by go_num, by rw [hnx.out, hst.out]; rfl, by rw [hnx.out, hst.out]; rfl, hL2⟩
                              case measure => simp [intOf]; omega
              · have kz : ¬ (k : Int) < (len : Int) := by omega
                go_wp2_with fail
                go_ret
                exact ⟨rfl, hBW.out.trans (hR.out.bel.mono (by omega))⟩
end Go.Proofs.Ytidofjjghbhaaaa
