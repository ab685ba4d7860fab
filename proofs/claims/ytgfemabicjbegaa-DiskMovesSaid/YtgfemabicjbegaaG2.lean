/- The contract of the laws' awake. -/
import Derived.Test.YtgfemabicjbegaaF4
namespace Go.Proofs.Ytgfemabicjbegaa
open Go.RowKit
set_option linter.unusedVariables false

/-- awake's disk, call by call -/
def aw0 : DM := DM.new 10
def aw1 : DM := (aw0.app 0 [120, 121]).2
def aw2 : DM := (aw1.syn 0).2
def aw3 : DM := (aw2.app 0 [122]).2
def aw4 : DM := (aw3.app 1 [49, 50, 51, 52, 53, 54, 55, 56]).2
def aw5 : DM := (aw4.app 4 []).2
def aw6 : DM := aw5.crash 0 0 0 0
def aw7 : DM := (aw6.mov 0 2).2
def aw8 : DM := (aw7.cut 2 1).2
def aw9 : DM := aw8.setf 0
def aw10 : DM := (aw9.syn 2).2
theorem aw0_ok : aw0.Ok := DM.new_ok 10 (by omega)
theorem aw1_ok : aw1.Ok := aw0_ok.app _ _
theorem aw2_ok : aw2.Ok := aw1_ok.syn _
theorem aw3_ok : aw3.Ok := aw2_ok.app _ _
theorem aw4_ok : aw4.Ok := aw3_ok.app _ _
theorem aw5_ok : aw5.Ok := aw4_ok.app _ _
theorem aw6_ok : aw6.Ok := aw5_ok.crash _ _ _ _
theorem aw7_ok : aw7.Ok := aw6_ok.mov _ _
theorem aw8_ok : aw8.Ok := aw7_ok.cut _ _
theorem aw9_ok : aw9.Ok := aw8_ok.setf _ (by omega)
theorem aw10_ok : aw10.Ok := aw9_ok.syn _
theorem aw1_e : (aw0.app 0 [120, 121]).1 = 0 := by decide +kernel
theorem aw2_e : (aw1.syn 0).1 = 0 := by decide +kernel
theorem aw3_e : (aw2.app 0 [122]).1 = 0 := by decide +kernel
theorem aw4_e : (aw3.app 1 [49, 50, 51, 52, 53, 54, 55, 56]).1 = 4 := by decide +kernel
theorem aw5_e : (aw4.app 4 []).1 = 1 := by decide +kernel
theorem aw6_b : aw6.B 0 = [120, 121] := by decide +kernel
theorem aw7_e : (aw6.mov 0 2).1 = 0 := by decide +kernel
theorem aw7_b : aw7.B 2 = [120, 121] := by decide +kernel
theorem aw8_e : (aw7.cut 2 1).1 = 0 := by decide +kernel
theorem aw10_e : (aw9.syn 2).1 = 9 := by decide +kernel
theorem aw10_l : aw10.room - aw10.tot = 9 := by decide +kernel

/-- a disk of one's own -/
structure Awk (W w : World) (b : Nat) (m : DM) : Prop where
  disk : IsD (fun j => W.heap.size ≤ j) w b m
  kp : Kp (fun j => W.heap.size ≤ j) W w
theorem Awk.up {W w : World} {b : Nat} {m : DM} (h : Awk W w b m) : ∀ j, w.heap.size ≤ j → W.heap.size ≤ j := fun j hj => by have := h.kp.size; omega

theorem awA {W w : World} {b : Nat} {m : DM} (h : Awk W w b m) (ok : m.Ok) (f : Int) (s : ByteArray) (l : List UInt8) (hs : bl s = l) (v : Int) (hv : (m.app f l).1 = v) :
    Calls Try.prog 14 #[.pointer (some ⟨b, 0, none⟩), .int .i64 f, .string s] w fun e w' => e = .returned (.int .i64 v) ∧ Awk W w' b (m.app f l).2 := by
  subst hs
  refine (app_any _ b m f s w h.disk ok h.up).mono ?_
  rintro e w' ⟨rfl, hD, hK⟩
  exact ⟨by rw [hv], hD, h.kp.trans hK⟩
theorem awS {W w : World} {b : Nat} {m : DM} (h : Awk W w b m) (ok : m.Ok) (f : Int) (v : Int) (hv : (m.syn f).1 = v) :
    Calls Try.prog 17 #[.pointer (some ⟨b, 0, none⟩), .int .i64 f] w fun e w' => e = .returned (.int .i64 v) ∧ Awk W w' b (m.syn f).2 := by
  refine (sync_any _ b m f w h.disk ok h.up).mono ?_
  rintro e w' ⟨rfl, hD, hK⟩
  exact ⟨by rw [hv], hD, h.kp.trans hK⟩
theorem awC {W w : World} {b : Nat} {m : DM} (h : Awk W w b m) (ok : m.Ok) (f n : Int) (v : Int) (hv : (m.cut f n).1 = v) :
    Calls Try.prog 18 #[.pointer (some ⟨b, 0, none⟩), .int .i64 f, .int .i64 n] w fun e w' => e = .returned (.int .i64 v) ∧ Awk W w' b (m.cut f n).2 := by
  refine (cut_any _ b m f n w h.disk ok h.up).mono ?_
  rintro e w' ⟨rfl, hD, hK⟩
  exact ⟨by rw [hv], hD, h.kp.trans hK⟩
theorem awM {W w : World} {b : Nat} {m : DM} (h : Awk W w b m) (ok : m.Ok) (f n : Int) (v : Int) (hv : (m.mov f n).1 = v) :
    Calls Try.prog 15 #[.pointer (some ⟨b, 0, none⟩), .int .i64 f, .int .i64 n] w fun e w' => e = .returned (.int .i64 v) ∧ Awk W w' b (m.mov f n).2 := by
  refine (mov_any _ b m f n w h.disk ok h.up).mono ?_
  rintro e w' ⟨rfl, hD, hK⟩
  exact ⟨by rw [hv], hD, h.kp.trans hK⟩
theorem awK {W w : World} {b : Nat} {m : DM} (h : Awk W w b m) (ok : m.Ok) :
    Calls Try.prog 13 #[.pointer (some ⟨b, 0, none⟩), .agg #[.int .i64 0, .int .i64 0, .int .i64 0, .int .i64 0]] w fun e w' => e = .returned (.tuple #[]) ∧ Awk W w' b (m.crash 0 0 0 0) := by
  refine (crash_any _ b m (fun _ => 0) w h.disk ok h.up (fun _ => by omega)).mono ?_
  rintro e w' ⟨rfl, hD, hK⟩
  exact ⟨rfl, hD, h.kp.trans hK⟩
theorem awF {W w : World} {b : Nat} {m : DM} (h : Awk W w b m) (n : Int) :
    Calls Try.prog 16 #[.pointer (some ⟨b, 0, none⟩), .int .i64 n] w fun e w' => e = .returned (.tuple #[]) ∧ Awk W w' b (m.setf n) := by
  obtain ⟨⟨vs, hd⟩, hk⟩ := h
  refine (fuse_any _ b m vs n w hd).mono ?_
  rintro e w' ⟨rfl, hD, hK⟩
  exact ⟨rfl, ⟨vs, hD⟩, hk.trans (hK.mono fun j _ e => by subst e; exact hd.own)⟩
theorem awR {W w : World} {b : Nat} {m : DM} (h : Awk W w b m) (f : Int) (hf : isFile f = true) (l : List UInt8) (hl : m.B f.toNat = l) :
    Calls Try.prog 12 #[.pointer (some ⟨b, 0, none⟩), .int .i64 f] w fun e w' => e = .returned (.tuple #[sv l, .int .i64 0]) ∧ w = w' := by
  obtain ⟨⟨vs, hd⟩, hk⟩ := h
  have hr := read_any _ b m vs f w hd
  rw [hf, hl] at hr
  exact hr
theorem awL {W w : World} {b : Nat} {m : DM} (h : Awk W w b m) (ok : m.Ok) (n : Nat) (hn : m.room - m.tot = n) :
    Calls Try.prog 10 #[.pointer (some ⟨b, 0, none⟩)] w fun e w' => e = .returned (.int .i64 (n : Int)) ∧ Kp (fun j => W.heap.size ≤ j) W w' := by
  obtain ⟨⟨vs, hd⟩, hk⟩ := h
  have hr := left_any _ b m vs w hd ok
  rw [hn] at hr
  refine hr.mono ?_
  rintro e w' ⟨rfl, hb⟩
  exact ⟨rfl, hk.trans (Kp.of_below hb)⟩

set_option maxHeartbeats 4000000 in
set_option maxRecDepth 100000 in
theorem awake_any (w : World) :
    Calls Try.prog 6 #[] w fun e w' => e = .returned (.bool true) ∧ Below w.heap.size w w' := by
  have hz31 : ∀ w, (Instr.build 31 #[]).run Try.prog w = .ok (.agg #[.int .i64 0, .int .i64 0, .int .i64 0, .int .i64 0]) w := fun w => by kernel_rfl
  have es : sv [120, 121] = .string ⟨#[120, 121]⟩ := rfl
  go_enter Try.func6, Try.ntmps6
  go_wp2_with fail
  refine (new_any (fun j => w.heap.size ≤ j) 10 _ (by omega) (fun j h => h)).mono ?_
  rintro e w1 ⟨b, rfl, hb, hD, hB⟩
  have A0 : Awk w w1 b aw0 := ⟨hD, Kp.of_below hB⟩
  clear hD hB hb
  replace A0 := Lib.hid A0
  go_wp2_with fail
  refine (newBad_any (-1) _ (by omega)).mono ?_
  rintro e w' ⟨rfl, rfl⟩
  go_wp2_with fail
  refine (awA A0.out aw0_ok 0 _ [120, 121] rfl 0 aw1_e).mono ?_
  rintro e w2 ⟨rfl, A1⟩
  replace A1 := Lib.hid A1
  clear A0
  go_wp2_with fail
  refine (awS A1.out aw1_ok 0 0 aw2_e).mono ?_
  rintro e w3 ⟨rfl, A2⟩
  replace A2 := Lib.hid A2
  clear A1
  go_wp2_with fail
  refine (awA A2.out aw2_ok 0 _ [122] rfl 0 aw3_e).mono ?_
  rintro e w4 ⟨rfl, A3⟩
  replace A3 := Lib.hid A3
  clear A2
  go_wp2_with fail
  refine (awA A3.out aw3_ok 1 _ [49, 50, 51, 52, 53, 54, 55, 56] rfl 4 aw4_e).mono ?_
  rintro e w5 ⟨rfl, A4⟩
  replace A4 := Lib.hid A4
  clear A3
  go_wp2_with fail
  refine (awA A4.out aw4_ok 4 _ [] rfl 1 aw5_e).mono ?_
  rintro e w6 ⟨rfl, A5⟩
  replace A5 := Lib.hid A5
  clear A4
  go_wp2_with fail
  refine (awK A5.out aw5_ok).mono ?_
  rintro e w7 ⟨rfl, A6⟩
  replace A6 := Lib.hid A6
  clear A5
  go_wp2_with fail
  refine (awR A6.out 0 rfl [120, 121] aw6_b).mono ?_
  rintro e w' ⟨rfl, rfl⟩
  rw [es]
  go_wp2_with fail
  refine (awM A6.out aw6_ok 0 2 0 aw7_e).mono ?_
  rintro e w8 ⟨rfl, A7⟩
  replace A7 := Lib.hid A7
  clear A6
  go_wp2_with fail
  refine (awR A7.out 2 rfl [120, 121] aw7_b).mono ?_
  rintro e w' ⟨rfl, rfl⟩
  rw [es]
  go_wp2_with fail
  refine (awC A7.out aw7_ok 2 1 0 aw8_e).mono ?_
  rintro e w9 ⟨rfl, A8⟩
  replace A8 := Lib.hid A8
  clear A7
  go_wp2_with fail
  refine (awF A8.out 0).mono ?_
  rintro e w10 ⟨rfl, A9⟩
  replace A9 := Lib.hid A9
  clear A8
  go_wp2_with fail
  refine (awS A9.out aw9_ok 2 9 aw10_e).mono ?_
  rintro e w11 ⟨rfl, A10⟩
  replace A10 := Lib.hid A10
  clear A9
  go_wp2_with fail
  refine (awL A10.out aw10_ok 9 aw10_l).mono ?_
  rintro e w12 ⟨rfl, hK⟩
  replace hK := Lib.hid hK
  go_wp2_with fail
  go_ret
  exact ⟨rfl, hK.out.below (Nat.le_refl _) fun j hj h => by omega⟩
end Go.Proofs.Ytgfemabicjbegaa
