/- Plain journals over disks that have power, and room: all goes through. No Go text.
  A journal of one's own in memory, call by call; journals that are told of no more than what they hold.
  The contract of the laws' awake. -/
import Derived.Test.YtidofjjghbhaaaaJ2
import Derived.Test.YtidofjjghbhaaaaNB
namespace Go.Proofs.Ytidofjjghbhaaaa
set_option linter.unusedVariables false

/-- there is power, and no fuse -/
structure Free (m : DM) : Prop where
  fuse : m.fuse = -1
  down : m.down = false
theorem Free.pow {m : DM} (h : Free m) : m.pow = true := by unfold DM.pow; rw [h.fuse, h.down]; rfl
theorem Free.burnt {m : DM} (h : Free m) : m.burnt = m := by
  unfold DM.burnt
  rw [if_pos h.pow, h.fuse]
  obtain ⟨h1, h2⟩ := h
  cases m
  simp only at h1
  subst h1
  rfl
theorem Free.new (room : Nat) : Free (DM.new room) := ⟨rfl, rfl⟩
theorem Free.app {m : DM} (h : Free m) (f : Nat) (hf : f < 4) (l : List UInt8) (hl : m.tot + l.length ≤ m.room) : m.app (f : Int) l = (0, m.put (upd m.B f (m.B f ++ l)) m.S) := by
  unfold DM.app
  rw [isFile_of f hf, if_pos rfl, h.pow, if_pos rfl, if_neg (by omega), h.burnt, Int.toNat_natCast]
theorem Free.syn {m : DM} (h : Free m) (f : Nat) (hf : f < 4) : m.syn (f : Int) = (0, m.put m.B (upd m.S f (m.B f).length)) := by
  unfold DM.syn
  rw [isFile_of f hf, if_pos rfl, h.pow, if_pos rfl, h.burnt, Int.toNat_natCast]
theorem Free.cut {m : DM} (h : Free m) (f n : Nat) (hf : f < 4) (hn : n ≤ (m.B f).length) : m.cut (f : Int) (n : Int) = (0, m.put (upd m.B f ((m.B f).take n)) (upd m.S f (min (m.S f) n))) := by
  unfold DM.cut DM.cutOk
  have : (decide ((0 : Int) ≤ (n : Int)) && decide ((n : Int) ≤ ((m.B (f : Int).toNat).length : Int))) = true := by simp; omega
  rw [isFile_of f hf, this, if_pos (by rfl), h.pow, if_pos rfl, h.burnt, Int.toNat_natCast, Int.toNat_natCast]
theorem Free.mov {m : DM} (h : Free m) (f t : Nat) (hf : f < 4) (ht : t < 4) : m.mov (f : Int) (t : Int) = (0, m.put (upd (upd m.B f []) t (m.B f)) (upd (upd m.S f 0) t (m.S f))) := by
  unfold DM.mov
  rw [isFile_of f hf, isFile_of t ht]
  simp only [Bool.and_self, if_true]
  rw [h.pow, if_pos rfl, h.burnt, Int.toNat_natCast, Int.toNat_natCast]
theorem Free.put {m : DM} (h : Free m) (B : Nat → List UInt8) (S : Nat → Nat) : Free (m.put B S) := ⟨h.fuse, h.down⟩
/-- free, with that much more at most -/
structure Rm (m m' : DM) (n : Nat) : Prop where
  free : Free m'
  room : m'.room = m.room
  tot : m'.tot ≤ m.tot + n
theorem Rm.trans {a b c : DM} {n k : Nat} (h : Rm a b n) (h2 : Rm b c k) : Rm a c (n + k) := ⟨h2.free, h2.room.trans h.room, by have := h.tot; have := h2.tot; omega⟩
theorem Rm.refl {a : DM} (h : Free a) : Rm a a 0 := ⟨h, rfl, by omega⟩
theorem rm_app {m : DM} (h : Free m) (f : Nat) (hf : f < 4) (l : List UInt8) (hl : m.tot + l.length ≤ m.room) : (m.app (f : Int) l).1 = 0 ∧ Rm m (m.app (f : Int) l).2 l.length := by
  rw [h.app f hf l hl]
  refine ⟨rfl, h.put _ _, rfl, ?_⟩
  have := m.put_tot f hf (m.B f ++ l) m.S
  rw [List.length_append] at this
  dsimp only
  omega
theorem rm_syn {m : DM} (h : Free m) (f : Nat) (hf : f < 4) : (m.syn (f : Int)).1 = 0 ∧ Rm m (m.syn (f : Int)).2 0 := by
  rw [h.syn f hf]
  exact ⟨rfl, h.put _ _, rfl, Nat.le_refl _⟩
theorem rm_cut {m : DM} (h : Free m) (f n : Nat) (hf : f < 4) (hn : n ≤ (m.B f).length) : (m.cut (f : Int) (n : Int)).1 = 0 ∧ Rm m (m.cut (f : Int) (n : Int)).2 0 := by
  rw [h.cut f n hf hn]
  refine ⟨rfl, h.put _ _, rfl, ?_⟩
  have := m.put_tot f hf ((m.B f).take n) (upd m.S f (min (m.S f) n))
  rw [List.length_take] at this
  dsimp only
  omega
theorem rm_cutJ {m : DM} (h : Free m) (f n : Nat) (hf : f < 4) (hn : n ≤ (m.B f).length) : (cutJ m f n).1 = 0 ∧ Rm m (cutJ m f n).2 0 := by
  unfold cutJ
  split
  · exact ⟨rfl, Rm.refl h⟩
  · exact rm_cut h f n hf hn
theorem rm_mov {m : DM} (h : Free m) (f t : Nat) (hf : f < 4) (ht : t < 4) (hne : f ≠ t) : (m.mov (f : Int) (t : Int)).1 = 0 ∧ Rm m (m.mov (f : Int) (t : Int)).2 0 := by
  rw [h.mov f t hf ht]
  refine ⟨rfl, h.put _ _, rfl, ?_⟩
  have t1 := m.put_tot f hf [] (upd m.S f 0)
  have t2 := (m.put (upd m.B f []) (upd m.S f 0)).put_tot t ht (m.B f) (upd (upd m.S f 0) t (m.S f))
  have e : (m.put (upd m.B f []) (upd m.S f 0)).B t = m.B t := upd_other _ _ (Ne.symm hne)
  have e2 : ((m.put (upd m.B f []) (upd m.S f 0)).put (upd (m.put (upd m.B f []) (upd m.S f 0)).B t (m.B f)) (upd (upd m.S f 0) t (m.S f))).tot = (m.put (upd (upd m.B f []) t (m.B f)) (upd (upd m.S f 0) t (m.S f))).tot := rfl
  rw [e2, e] at t2
  simp only [List.length_nil] at t1
  dsimp only
  omega

/-- an append goes through -/
theorem appJ_free {m : DM} (h : Free m) (j : JM) (b : List UInt8) (hj : j.broken = false) (hb : b.length ≤ 65528) (hr : m.tot + 16 + b.length ≤ m.room) :
    (appJ m j b).1 = 0 ∧ Rm m (appJ m j b).2.1 (16 + b.length) ∧ (appJ m j b).2.2 = { j with recs := j.recs ++ [b] } := by
  have hl : (frame (eight (j.last + 1) ++ b)).length = 16 + b.length := by rw [frame_length, List.length_append, eight_length]; omega
  unfold appJ
  rw [if_neg (by omega), hj]
  simp only [Bool.false_eq_true, if_false]
  obtain ⟨a1, a2⟩ := rm_app h 0 (by omega) (frame (eight (j.last + 1) ++ b)) (by omega)
  rw [show m.app 0 (frame (eight (j.last + 1) ++ b)) = m.app ((0 : Nat) : Int) (frame (eight (j.last + 1) ++ b)) from rfl]
  generalize m.app ((0 : Nat) : Int) (frame (eight (j.last + 1) ++ b)) = A at *
  rw [if_neg (by omega), if_pos a1]
  obtain ⟨s1, s2⟩ := rm_syn a2.free 0 (by omega)
  rw [show A.2.syn 0 = A.2.syn ((0 : Nat) : Int) from rfl]
  generalize A.2.syn ((0 : Nat) : Int) = S at *
  rw [if_pos s1]
  rw [hl] at a2
  exact ⟨rfl, by simpa using a2.trans s2, rfl⟩
/-- a snapshot goes through -/
theorem snapJ_free {m : DM} (h : Free m) (j : JM) (t : List UInt8) (hj : j.broken = false) (hb : t.length ≤ 65528) (hr : m.tot + 16 + t.length ≤ m.room) :
    (snapJ m j t).1 = 0 ∧ Rm m (snapJ m j t).2.1 (16 + t.length) ∧ (snapJ m j t).2.2 = ⟨t, j.last, [], false⟩ := by
  have hl : (frame (eight j.last ++ t)).length = 16 + t.length := by rw [frame_length, List.length_append, eight_length]; omega
  unfold snapJ
  rw [if_neg (by omega), hj]
  simp only [Bool.false_eq_true, if_false]
  obtain ⟨c1, c2⟩ := rm_cutJ h 2 0 (by omega) (by omega)
  generalize cutJ m 2 0 = C at *
  rw [if_neg (by omega)]
  have hroom := c2.room
  have htot := c2.tot
  obtain ⟨a1, a2⟩ := rm_app c2.free 2 (by omega) (frame (eight j.last ++ t)) (by omega)
  rw [show C.2.app 2 (frame (eight j.last ++ t)) = C.2.app ((2 : Nat) : Int) (frame (eight j.last ++ t)) from rfl]
  generalize C.2.app ((2 : Nat) : Int) (frame (eight j.last ++ t)) = A at *
  rw [if_neg (by omega), if_neg (by omega)]
  obtain ⟨s1, s2⟩ := rm_syn a2.free 2 (by omega)
  rw [show A.2.syn 2 = A.2.syn ((2 : Nat) : Int) from rfl]
  generalize A.2.syn ((2 : Nat) : Int) = S at *
  rw [if_neg (by omega)]
  obtain ⟨v1, v2⟩ := rm_mov s2.free 2 1 (by omega) (by omega) (by omega)
  rw [show S.2.mov 2 1 = S.2.mov ((2 : Nat) : Int) ((1 : Nat) : Int) from rfl]
  generalize S.2.mov ((2 : Nat) : Int) ((1 : Nat) : Int) = V at *
  rw [if_neg (by omega)]
  obtain ⟨e1, e2⟩ := rm_cut v2.free 0 0 (by omega) (by omega)
  rw [show V.2.cut 0 0 = V.2.cut ((0 : Nat) : Int) ((0 : Nat) : Int) from rfl]
  generalize V.2.cut ((0 : Nat) : Int) ((0 : Nat) : Int) = E at *
  rw [if_neg (by omega)]
  rw [hl] at a2
  have := (((c2.trans a2).trans s2).trans v2).trans e2
  exact ⟨rfl, by simpa using this, rfl⟩
/-- opened again, a journal is the same -/
theorem open_same {dm : DM} {j : JM} {all : List (List UInt8)} {T : Nat → List UInt8 → Prop} {a : Nat} (h : Steady dm j all T a) (ok : dm.Ok) (hf : Free dm) :
    (openJ dm).1 = 0 ∧ (openJ dm).2.2 = some j ∧ Steady (openJ dm).2.1 j all T a ∧ Rm dm (openJ dm).2.1 0 := by
  have hbl := h.kept.bl
  have hS := ok.sure 0 (by omega)
  have hlk : dm.S 0 = (dm.B 0).length := by rw [h.sure, h.log]
  have hz := open_free h.kept h.safe ok hf.fuse hf.down
  obtain ⟨m, h1, h2, h3, h4⟩ := open_finds h.kept h.safe hS
  obtain ⟨m', h1', h2', h3', h4', _⟩ := open_keeps h.kept h.safe ok
  have em : m = all.length := by omega
  have em' : m' = all.length := by omega
  subst em; subst em'
  have ej : (⟨j.text, j.base, (all.drop j.base).take (all.length - j.base), false⟩ : JM) = j := by
    have hr := h.recs
    have hw := h.whole
    rw [List.take_of_length_le (by simp)]
    cases j
    simp only at hr hw
    rw [hr, hw]
  rw [ej] at h4' h4
  rcases h4' with ⟨a1, a2, a3⟩ | ⟨a1, _⟩
  · have hst := a3 hlk
    rw [List.take_length] at hst
    refine ⟨hz, a2, hst, ?_⟩
    rw [h4] at hz ⊢
    unfold openCut at hz ⊢
    obtain ⟨c1, c2⟩ := rm_cutJ hf 0 (flen all a all.length) (by omega) (by rw [flen_all, h.log]; exact Nat.le_refl _)
    obtain ⟨d1, d2⟩ := rm_cutJ c2.free 2 0 (by omega) (by omega)
    rw [if_pos c1, if_pos d1]
    exact c2.trans d2
  · exact absurd hz a1
/-- a new disk's journal -/
theorem steady_new (room : Nat) (T : Nat → List UInt8 → Prop) (hT : T 0 []) : Steady (DM.new room) ⟨[], 0, [], false⟩ [] T 0 :=
  ⟨⟨.inl ⟨rfl, rfl, rfl⟩, rfl, by simp, hT, rfl, Nat.le_refl _, Nat.le_refl _, Nat.le_refl _, (fun r hr => by cases hr), by simp⟩, rfl, rfl, rfl⟩
end Go.Proofs.Ytidofjjghbhaaaa
namespace Go.Proofs.Ytidofjjghbhaaaa
open Go.RowKit
set_option linter.unusedVariables false

/-- a journal's object and its row, whatever its disk is now -/
structure JO (w : World) (jb d : Nat) (j : JM) (p : Option Addr) (cap : Nat) : Prop where
  obj : w.heap[jb]? = some (.cells #[.pointer (some ⟨d, 0, none⟩), .int .i64 (j.base : Nat), sv j.text, .slice p j.recs.length cap, .bool j.broken] 80 (0, 0))
  row : Own 0 w (.slice p j.recs.length cap) j.recs
theorem IsJv.jo {P : Nat → Prop} {w : World} {jb d : Nat} {m : DM} {j : JM} {p : Option Addr} {cap : Nat} (h : IsJv P w jb d m j p cap) : JO w jb d j p cap := ⟨h.obj, h.row⟩
theorem JO.kept {w w' : World} {jb d : Nat} {j : JM} {p : Option Addr} {cap : Nat} {F : Nat → Prop} (h : JO w jb d j p cap) (hK : Kp F w w') (h1 : ¬ F jb) (h2 : ∀ a, p = some a → ¬ F a.block) : JO w' jb d j p cap :=
  ⟨(hK.block jb (obj_lt h.obj) h1).trans h.obj, h.row.block fun g hg => by obtain ⟨a, ha, rfl⟩ := h.row.own hg; exact hK.block _ (h.row.addr ha).2 (h2 a ha)⟩
theorem JO.below {w w' : World} {jb d : Nat} {j : JM} {p : Option Addr} {cap : Nat} (h : JO w jb d j p cap) (hB : Below w.heap.size w w') : JO w' jb d j p cap := h.kept (Kp.of_below (F := fun _ => False) hB) (fun h => h) (fun _ _ h => h)

set_option maxHeartbeats 2000000 in
set_option maxRecDepth 100000 in
theorem lastO_any {jb d : Nat} {j : JM} {w : World} {p : Option Addr} {cap : Nat} (h : JO w jb d j p cap) (hl : j.last < 9223372036854000000) :
    Calls Try.prog 26 #[.pointer (some ⟨jb, 0, none⟩)] w fun e w' => e = .returned (.int .i64 (j.last : Nat)) ∧ ∃ n, w' = w.drewN n := by
  have c1 : w.cell? ⟨jb, 1, none⟩ = some (.int .i64 (j.base : Nat)) := obj_cell h.obj rfl
  have c3 : w.cell? ⟨jb, 3, none⟩ = some (.slice p j.recs.length cap) := obj_cell h.obj rfl
  have hz : IntKind.i64.wrap ((j.base : Int) + (j.recs.length : Int)) = ((j.last : Nat) : Int) := by unfold JM.last at *; rw [IntKind.wrap_i64] <;> omega
  replace h := Lib.hid h
  generalize j.last = last at *
  generalize j.recs.length = n at *
  go_enter Try.func26, Try.ntmps26
  go_wp2_with fail
  go_quiet (fail)
  go_wp2_with fail
  go_ret
  exact ⟨rfl, nq, rfl⟩
set_option maxHeartbeats 2000000 in
set_option maxRecDepth 100000 in
theorem recordsO_any {jb d : Nat} {j : JM} {w : World} {p : Option Addr} {cap : Nat} (h : JO w jb d j p cap) (hrl : j.recs.length < 33000000) :
    Calls Try.prog 28 #[.pointer (some ⟨jb, 0, none⟩)] w fun e w' => (∃ p cap, e = .returned (.slice p j.recs.length cap) ∧ SRow w' p j.recs.length j.recs) ∧ Below w.heap.size w w' := by
  have c3 : w.cell? ⟨jb, 3, none⟩ = some (.slice p j.recs.length cap) := obj_cell h.obj rfl
  have hC : Calls Try.prog 71 #[.slice p j.recs.length cap] w fun e w' => (∃ p cap, e = .returned (.slice p j.recs.length cap) ∧ SRow w' p j.recs.length j.recs) ∧ Below w.heap.size w w' := by
    have hr := h.row
    obtain ⟨p', cap', e, hS⟩ := hr.row
    rcases hr.2 with ⟨e2, h0⟩ | ⟨g, c, cur, e2, _, hg, hn, _⟩
    · injection e2 with e2
      subst e2
      refine (Try.slices_Clone_string_nil j.recs.length cap w).mono ?_
      rintro e w' ⟨rfl, rfl⟩
      have hl : j.recs = [] := List.eq_nil_of_length_eq_zero h0
      rw [hl]
      exact ⟨⟨none, 0, rfl, rfl, .inl rfl⟩, Below.refl _ _⟩
    · injection e2 with e2 e3 e4
      subst e2
      injection e with e5 e6 e7
      subst e5
      obtain ⟨s1, s2⟩ := hS
      have hc : ∀ i, i < (j.recs.map fun l => (⟨l.toArray⟩ : ByteArray)).length → w.cell? ⟨g, 0 + i, none⟩ = some (.string ((j.recs.map fun l => (⟨l.toArray⟩ : ByteArray)).getD i ByteArray.empty)) := by
        intro i hi
        rw [List.length_map] at hi
        rcases s2 with s2 | ⟨b, off, hb, _, hc⟩
        · omega
        · injection hb with hb
          injection hb with hb1 hb2
          subst hb1; subst hb2
          rw [hc i hi, List.getD_eq_getElem?_getD, List.getD_eq_getElem?_getD, List.getElem?_map, List.getElem?_eq_getElem hi]
          rfl
      refine (Try.slices_Clone_string g 0 j.recs.length cap (j.recs.map fun l => (⟨l.toArray⟩ : ByteArray)) w (by simp) (by omega) hc).mono ?_
      rintro e w' ⟨v', rfl, hO, _, hB⟩
      have hO2 : Own w.heap.size w' v' j.recs := by
        unfold Own
        rw [List.take_of_length_le (by simp), List.map_map] at hO
        exact hO
      obtain ⟨p2, cap2, rfl, hS2⟩ := hO2.row
      exact ⟨⟨p2, cap2, rfl, hS2⟩, hB⟩
  replace h := Lib.hid h
  replace hC := Lib.hid hC
  go_enter Try.func28, Try.ntmps28
  go_wp2_with (first | (go_at_call 71; refine hC.out.mono ?_; rintro e w' ⟨⟨p1, cap1, rfl, hs1⟩, hb1⟩; replace hs1 := Lib.hid hs1; replace hb1 := Lib.hid hb1))
  go_ret
  exact ⟨⟨p1, cap1, rfl, hs1.out⟩, hb1.out⟩

/-- a call: what isn't F's is as it was; what is the thing's now was F's, or is new -/
structure Step (F F' : Nat → Prop) (w w' : World) : Prop where
  kp : Kp F w w'
  sub : ∀ i, F' i → F i ∨ w.heap.size ≤ i
theorem Step.not {F F' : Nat → Prop} {w w' : World} (h : Step F F' w w') {i : Nat} (hi : i < w.heap.size) (hF : ¬ F i) : ¬ F' i := fun e => by rcases h.sub i e with h1 | h1; exact hF h1; omega
theorem Step.of_below {F : Nat → Prop} {w w' : World} (hb : Below w.heap.size w w') : Step F F w w' := ⟨Kp.of_below hb, fun i h => .inl h⟩
theorem Step.trans {F F' F'' : Nat → Prop} {a b c : World} (h : Step F F' a b) (k : Step F' F'' b c) : Step F F'' a c :=
  ⟨h.kp.then k.kp fun j hj hf => by rcases h.sub j hf with h1 | h1; exact h1; omega, fun i hi => by
    rcases k.sub i hi with h1 | h1
    · exact h.sub i h1
    · exact .inr (Nat.le_trans h.kp.size h1)⟩
/-- a disk, and a journal, with their blocks, of what has been made since W -/
structure AD (W w : World) (D : Nat → Prop) (d : Nat) (m : DM) : Prop where
  dk : IsD D w d m
  fp : ∀ i, D i → W.heap.size ≤ i ∧ i < w.heap.size
  bel : Below W.heap.size W w
structure AJ (W w : World) (F : Nat → Prop) (jb d : Nat) (m : DM) (j : JM) : Prop where
  jn : IsJ F w jb d m j
  fp : ∀ i, F i → W.heap.size ≤ i ∧ i < w.heap.size
  bel : Below W.heap.size W w
theorem fp_bel {W w w' : World} {F : Nat → Prop} (fp : ∀ i, F i → W.heap.size ≤ i ∧ i < w.heap.size) (h : Below W.heap.size W w) (hK : Kp (fun i => F i ∨ w.heap.size ≤ i) w w') : Below W.heap.size W w' :=
  h.trans (hK.below h.size fun j hj hF => by have := h.size; rcases hF with hF | hF; exact absurd (fp j hF).1 (by omega); omega)
/-- the blocks behind a call -/
def nxt (F : Nat → Prop) (w w' : World) : Nat → Prop := fun i => (F i ∨ w.heap.size ≤ i) ∧ i < w'.heap.size
theorem nxt_step {F : Nat → Prop} {w w' : World} (hK : Kp (fun i => F i ∨ w.heap.size ≤ i) w w') : Step F (nxt F w w') w w' :=
  ⟨hK.mono fun j hj e => by rcases e with e | e; exact e; omega, fun i hi => hi.1⟩
theorem nxt_fp {W w w' : World} {F : Nat → Prop} (fp : ∀ i, F i → W.heap.size ≤ i ∧ i < w.heap.size) (h : Below W.heap.size W w) : ∀ i, nxt F w w' i → W.heap.size ≤ i ∧ i < w'.heap.size := fun i hi => ⟨by
  rcases hi.1 with h1 | h1
  · exact (fp i h1).1
  · exact Nat.le_trans h.size h1, hi.2⟩
theorem aj_mk {W w w' : World} {F : Nat → Prop} {jb d : Nat} {m : DM} {j : JM} (fp : ∀ i, F i → W.heap.size ≤ i ∧ i < w.heap.size) (h : Below W.heap.size W w) (hJ : IsJ (fun i => F i ∨ w.heap.size ≤ i) w' jb d m j) (hK : Kp (fun i => F i ∨ w.heap.size ≤ i) w w') : AJ W w' (nxt F w w') jb d m j :=
  ⟨hJ.weak fun i hi hp => ⟨hp, hi⟩, nxt_fp fp h, fp_bel fp h hK⟩
theorem ad_mk {W w w' : World} {F : Nat → Prop} {d : Nat} {m : DM} (fp : ∀ i, F i → W.heap.size ≤ i ∧ i < w.heap.size) (h : Below W.heap.size W w) (hJ : IsD (fun i => F i ∨ w.heap.size ≤ i) w' d m) (hK : Kp (fun i => F i ∨ w.heap.size ≤ i) w w') : AD W w' (nxt F w w') d m :=
  ⟨hJ.weak fun i hi hp => ⟨hp, hi⟩, nxt_fp fp h, fp_bel fp h hK⟩
theorem AJ.later {W w w' : World} {F : Nat → Prop} {jb d : Nat} {m : DM} {j : JM} (h : AJ W w F jb d m j) (hb : Below w.heap.size w w') : AJ W w' F jb d m j :=
  ⟨h.jn.kept (Kp.of_below (F := fun _ => False) hb) (fun _ _ _ h => h), fun i hi => ⟨(h.fp i hi).1, Nat.lt_of_lt_of_le (h.fp i hi).2 hb.size⟩, h.bel.trans (hb.mono h.bel.size)⟩
theorem AD.later {W w w' : World} {F : Nat → Prop} {d : Nat} {m : DM} (h : AD W w F d m) (hb : Below w.heap.size w w') : AD W w' F d m :=
  ⟨h.dk.kept (Kp.of_below (F := fun _ => False) hb) (fun _ _ _ h => h), fun i hi => ⟨(h.fp i hi).1, Nat.lt_of_lt_of_le (h.fp i hi).2 hb.size⟩, h.bel.trans (hb.mono h.bel.size)⟩
theorem ad_open {W w : World} {D : Nat → Prop} {d : Nat} {m : DM} {j : JM} (h : AD W w D d m) (ok : m.Ok) (h1 : (openJ m).1 = 0) (h2 : (openJ m).2.2 = some j) :
    Calls Try.prog 15 #[.pointer (some ⟨d, 0, none⟩)] w fun e w' => ∃ (jb : Nat) (F' : Nat → Prop), e = .returned (.tuple #[.pointer (some ⟨jb, 0, none⟩), .int .i64 0]) ∧ AJ W w' F' jb d (openJ m).2.1 j ∧ Step D F' w w' := by
  refine (opens_any (fun i => D i ∨ w.heap.size ≤ i) d m w (h.dk.weak fun i _ hp => .inl hp) ok (fun i hi => .inr hi)).mono ?_
  rintro e w' ⟨jb, rfl, hm, hK⟩
  rw [h2] at hm
  rw [h1, h2]
  exact ⟨jb, _, rfl, aj_mk h.fp h.bel hm hK, nxt_step hK⟩
theorem ad_open_no {W w : World} {D : Nat → Prop} {d : Nat} {m : DM} (h : AD W w D d m) (ok : m.Ok) (h2 : (openJ m).2.2 = none) :
    Calls Try.prog 15 #[.pointer (some ⟨d, 0, none⟩)] w fun e w' => ∃ D' : Nat → Prop, e = .returned (.tuple #[.pointer none, .int .i64 (openJ m).1]) ∧ AD W w' D' d (openJ m).2.1 ∧ Step D D' w w' := by
  refine (opens_any (fun i => D i ∨ w.heap.size ≤ i) d m w (h.dk.weak fun i _ hp => .inl hp) ok (fun i hi => .inr hi)).mono ?_
  rintro e w' ⟨jb, rfl, hm, hK⟩
  rw [h2] at hm
  rw [h2]
  exact ⟨_, rfl, ad_mk h.fp h.bel hm hK, nxt_step hK⟩
theorem aj_app {W w : World} {F : Nat → Prop} {jb d : Nat} {m : DM} {j : JM} (h : AJ W w F jb d m j) (ok : m.Ok) (s : ByteArray) (hs : s.size ≤ 40000) (hl : j.last < 9223372036854000000) (hrl : j.recs.length < 33000000) :
    Calls Try.prog 21 #[.pointer (some ⟨jb, 0, none⟩), .string s] w fun e w' => ∃ F' : Nat → Prop, e = .returned (.int .i64 (appJ m j (bl s)).1) ∧ AJ W w' F' jb d (appJ m j (bl s)).2.1 (appJ m j (bl s)).2.2 ∧ Step F F' w w' := by
  refine (appN_any (fun i => F i ∨ w.heap.size ≤ i) jb d m j s w (h.jn.weak fun i _ hp => .inl hp) ok (fun i hi => .inr hi) hs hl hrl).mono ?_
  rintro e w' ⟨rfl, hJ, hK⟩
  exact ⟨_, rfl, aj_mk h.fp h.bel hJ hK, nxt_step hK⟩
theorem aj_snap {W w : World} {F : Nat → Prop} {jb d : Nat} {m : DM} {j : JM} (h : AJ W w F jb d m j) (ok : m.Ok) (s : ByteArray) (hs : s.size ≤ 40000) (hl : j.last < 9223372036854000000) :
    Calls Try.prog 23 #[.pointer (some ⟨jb, 0, none⟩), .string s] w fun e w' => ∃ F' : Nat → Prop, e = .returned (.int .i64 (snapJ m j (bl s)).1) ∧ AJ W w' F' jb d (snapJ m j (bl s)).2.1 (snapJ m j (bl s)).2.2 ∧ Step F F' w w' := by
  refine (snapN_any (fun i => F i ∨ w.heap.size ≤ i) jb d m j s w (h.jn.weak fun i _ hp => .inl hp) ok (fun i hi => .inr hi) hs hl).mono ?_
  rintro e w' ⟨rfl, hJ, hK⟩
  exact ⟨_, rfl, aj_mk h.fp h.bel hJ hK, nxt_step hK⟩
theorem ad_app {W w : World} {D : Nat → Prop} {d : Nat} {m : DM} (h : AD W w D d m) (ok : m.Ok) (f : Int) (s : ByteArray) :
    Calls Try.prog 11 #[.pointer (some ⟨d, 0, none⟩), .int .i64 f, .string s] w fun e w' => ∃ D' : Nat → Prop, e = .returned (.int .i64 (m.app f (bl s)).1) ∧ AD W w' D' d (m.app f (bl s)).2 ∧ Step D D' w w' := by
  refine (app_any (fun i => D i ∨ w.heap.size ≤ i) d m f s w (h.dk.weak fun i _ hp => .inl hp) ok (fun i hi => .inr hi)).mono ?_
  rintro e w' ⟨rfl, hJ, hK⟩
  exact ⟨_, rfl, ad_mk h.fp h.bel hJ hK, nxt_step hK⟩
theorem ad_crash {W w : World} {D : Nat → Prop} {d : Nat} {m : DM} (h : AD W w D d m) (ok : m.Ok) (K : Nat → Int) (hk : ∀ k, K k ≤ 9223372036854775807) :
    Calls Try.prog 19 #[.pointer (some ⟨d, 0, none⟩), .agg #[.int .i64 (K 0), .int .i64 (K 1), .int .i64 (K 2), .int .i64 (K 3)]] w fun e w' => ∃ D' : Nat → Prop, e = .returned (.tuple #[]) ∧ AD W w' D' d (m.crash (K 0) (K 1) (K 2) (K 3)) ∧ Step D D' w w' := by
  refine (crash_any (fun i => D i ∨ w.heap.size ≤ i) d m K w (h.dk.weak fun i _ hp => .inl hp) ok (fun i hi => .inr hi) hk).mono ?_
  rintro e w' ⟨rfl, hJ, hK⟩
  exact ⟨_, rfl, ad_mk h.fp h.bel hJ hK, nxt_step hK⟩
theorem ad_fuse {W w : World} {D : Nat → Prop} {d : Nat} {m : DM} (h : AD W w D d m) (n : Int) :
    Calls Try.prog 18 #[.pointer (some ⟨d, 0, none⟩), .int .i64 n] w fun e w' => ∃ D' : Nat → Prop, e = .returned (.tuple #[]) ∧ AD W w' D' d (m.setf n) ∧ Step D D' w w' := by
  obtain ⟨vs, hv⟩ := h.dk
  refine (fuse_any _ d m vs n w hv).mono ?_
  rintro e w' ⟨rfl, hD, hK⟩
  have hK2 : Kp (fun i => D i ∨ w.heap.size ≤ i) w w' := hK.mono fun i _ e => by subst e; exact .inl hv.own
  exact ⟨_, rfl, ad_mk h.fp h.bel (IsD.weak ⟨vs, hD⟩ fun i _ hp => .inl hp) hK2, nxt_step hK2⟩
theorem aj_fuse {W w : World} {F : Nat → Prop} {jb d : Nat} {m : DM} {j : JM} (h : AJ W w F jb d m j) (n : Int) :
    Calls Try.prog 18 #[.pointer (some ⟨d, 0, none⟩), .int .i64 n] w fun e w' => ∃ F' : Nat → Prop, e = .returned (.tuple #[]) ∧ AJ W w' F' jb d (m.setf n) j ∧ Step F F' w w' := by
  refine (fuseJ_any n (h.jn.weak (Q := fun i => F i ∨ w.heap.size ≤ i) fun i _ hp => .inl hp)).mono ?_
  rintro e w' ⟨rfl, hJ, hK⟩
  exact ⟨_, rfl, aj_mk h.fp h.bel hJ hK, nxt_step hK⟩
theorem AJ.ad {W w : World} {F : Nat → Prop} {jb d : Nat} {m : DM} {j : JM} (h : AJ W w F jb d m j) : AD W w F d m := ⟨h.jn.disk, h.fp, h.bel⟩
/-- a journal's object beside its disk's blocks -/
structure Held (D : Nat → Prop) (w : World) (jb d : Nat) (j : JM) (p : Option Addr) (cap : Nat) : Prop where
  jo : JO w jb d j p cap
  njb : ¬ D jb
  nrow : ∀ a, p = some a → ¬ D a.block
theorem Held.step {D D' : Nat → Prop} {w w' : World} {jb d : Nat} {j : JM} {p : Option Addr} {cap : Nat} (h : Held D w jb d j p cap) (hs : Step D D' w w') : Held D' w' jb d j p cap :=
  ⟨h.jo.kept hs.kp h.njb h.nrow, hs.not (obj_lt h.jo.obj) h.njb, fun a ha => hs.not (h.jo.row.addr ha).2 (h.nrow a ha)⟩
theorem Held.later {D : Nat → Prop} {w w' : World} {jb d : Nat} {j : JM} {p : Option Addr} {cap : Nat} (h : Held D w jb d j p cap) (hb : Below w.heap.size w w') : Held D w' jb d j p cap := h.step (Step.of_below hb)
/-- a journal that is kept while its disk goes on -/
theorem aj_split {W w : World} {F : Nat → Prop} {jb d : Nat} {m : DM} {j : JM} (h : AJ W w F jb d m j) : ∃ p cap D, AD W w D d m ∧ Held D w jb d j p cap ∧ ∀ i, D i → F i := by
  obtain ⟨⟨p, cap, hj⟩, hfp, hb⟩ := h
  exact ⟨p, cap, dP F jb p, ⟨hj.disk, fun i hi => hfp i hi.1, hb⟩, ⟨hj.jo, fun e => e.2.1 rfl, fun a ha e => e.2.2 a ha rfl⟩, fun i hi => hi.1⟩
end Go.Proofs.Ytidofjjghbhaaaa
namespace Go.Proofs.Ytidofjjghbhaaaa
open Go.RowKit
set_option linter.unusedVariables false

def anyT : Nat → List UInt8 → Prop := fun _ _ => True
/-- a steady journal with room -/
structure Good (m0 m : DM) (j : JM) (all : List (List UInt8)) (n : Nat) : Prop where
  ok : m.Ok
  st : ∃ a, Steady m j all anyT a
  rm : Rm m0 m n
theorem Good.whole {m0 m : DM} {j : JM} {all : List (List UInt8)} {n : Nat} (h : Good m0 m j all n) : j.broken = false := by obtain ⟨a, h⟩ := h.st; exact h.whole
theorem Good.last {m0 m : DM} {j : JM} {all : List (List UInt8)} {n : Nat} (h : Good m0 m j all n) : j.last = all.length := by obtain ⟨a, h⟩ := h.st; exact h.last
theorem Good.recs {m0 m : DM} {j : JM} {all : List (List UInt8)} {n : Nat} (h : Good m0 m j all n) : j.recs = all.drop j.base := by obtain ⟨a, h⟩ := h.st; exact h.recs
theorem Good.new (room : Nat) (h : room ≤ 16777216) : Good (DM.new room) (DM.new room) ⟨[], 0, [], false⟩ [] 0 := ⟨DM.new_ok room h, ⟨0, steady_new room anyT trivial⟩, Rm.refl (Free.new room)⟩
theorem Good.open {m0 m : DM} {j : JM} {all : List (List UInt8)} {n : Nat} (h : Good m0 m j all n) : (openJ m).1 = 0 ∧ (openJ m).2.2 = some j ∧ Good m0 (openJ m).2.1 j all n := by
  obtain ⟨a, hs⟩ := h.st
  obtain ⟨h1, h2, h3, h4⟩ := open_same hs h.ok h.rm.free
  exact ⟨h1, h2, (okOpenJ h.ok).1, ⟨a, h3⟩, by simpa using h.rm.trans h4⟩
theorem Good.app {m0 m : DM} {j : JM} {all : List (List UInt8)} {n : Nat} (h : Good m0 m j all n) (b : List UInt8) (hb : b.length ≤ 40000) (hr : m0.tot + n + 16 + b.length ≤ m0.room) (hf : all.length < 4611686018427387902) :
    (appJ m j b).1 = 0 ∧ (appJ m j b).2.2 = { j with recs := j.recs ++ [b] } ∧ Good m0 (appJ m j b).2.1 { j with recs := j.recs ++ [b] } (all ++ [b]) (n + (16 + b.length)) := by
  obtain ⟨a, hs⟩ := h.st
  have h1 := h.rm.room
  have h2 := h.rm.tot
  obtain ⟨f1, f2, f3⟩ := appJ_free h.rm.free j b h.whole (by omega) (by omega)
  rcases appJ_keeps hs b hf with ⟨_, k⟩ | ⟨k, _⟩
  · rw [f3] at k
    exact ⟨f1, f3, (okAppJ h.ok j b).1, ⟨a, k⟩, h.rm.trans f2⟩
  · exact absurd f1 k
theorem Good.snap {m0 m : DM} {j : JM} {all : List (List UInt8)} {n : Nat} (h : Good m0 m j all n) (t : List UInt8) (hb : t.length ≤ 40000) (hr : m0.tot + n + 16 + t.length ≤ m0.room) :
    (snapJ m j t).1 = 0 ∧ (snapJ m j t).2.2 = ⟨t, j.last, [], false⟩ ∧ Good m0 (snapJ m j t).2.1 ⟨t, j.last, [], false⟩ all (n + (16 + t.length)) := by
  obtain ⟨a, hs⟩ := h.st
  have h1 := h.rm.room
  have h2 := h.rm.tot
  obtain ⟨f1, f2, f3⟩ := snapJ_free h.rm.free j t h.whole (by omega) (by omega)
  rcases snapJ_keeps hs t trivial (h.ok.sure 2 (by omega)) with ⟨_, k⟩ | ⟨k, _⟩
  · rw [f3] at k
    exact ⟨f1, f3, (okSnapJ h.ok j t).1, ⟨_, k⟩, h.rm.trans f2⟩
  · exact absurd f1 k

def aX : List UInt8 := [0, 0, 0, 1, 97, 97, 97, 97, 98, 99, 100]
theorem aX_stop : stop aX = some 2 := by decide +kernel
/-- bytes that are bad, behind a steady log -/
theorem Good.spoil {m0 m : DM} {j : JM} {all : List (List UInt8)} {n : Nat} (h : Good m0 m j all n) (hr : m0.tot + n + 11 ≤ m0.room) : (m.app 0 aX).2.Ok ∧ openJ (m.app 0 aX).2 = (8, (m.app 0 aX).2, none) := by
  refine ⟨h.ok.app 0 aX, ?_⟩
  obtain ⟨a, hs⟩ := h.st
  have h1 := h.rm.room
  have h2 := h.rm.tot
  have hl : aX.length = 11 := rfl
  have e := h.rm.free.app 0 (by omega) aX (by omega)
  have hB : (m.app 0 aX).2.B 0 = frames (encs a (all.drop a)) ++ aX := by
    show (m.app ((0 : Nat) : Int) aX).2.B 0 = _
    rw [e]
    show upd m.B 0 (m.B 0 ++ aX) 0 = _
    rw [upd_same, hs.log]
  have hsc : (scan ((m.app 0 aX).2.B 0)).2.2 = 2 := by
    rw [hB, scan_frames _ _ (encs_short a _ fun r hr => hs.kept.recs r (List.mem_of_mem_drop hr)), scan_stop aX_stop]
  unfold openJ
  cases snapOf ((m.app 0 aX).2.B 1) with
  | none => rfl
  | some s => simp only; rw [if_pos hsc]

/-- a steady journal in memory -/
def GJ (m0 : DM) (W w : World) (F : Nat → Prop) (jb d : Nat) (j : JM) (all : List (List UInt8)) (n : Nat) : Prop := ∃ m, AJ W w F jb d m j ∧ Good m0 m j all n
def GD (m0 : DM) (W w : World) (D : Nat → Prop) (d : Nat) (j : JM) (all : List (List UInt8)) (n : Nat) : Prop := ∃ m, AD W w D d m ∧ Good m0 m j all n
section
variable {m0 : DM} {W w w' : World} {F D : Nat → Prop} {jb d : Nat} {j : JM} {all : List (List UInt8)} {n : Nat}
theorem GJ.gd (h : GJ m0 W w F jb d j all n) : GD m0 W w F d j all n := by obtain ⟨m, h1, h2⟩ := h; exact ⟨m, h1.ad, h2⟩
theorem GJ.later (h : GJ m0 W w F jb d j all n) (hb : Below w.heap.size w w') : GJ m0 W w' F jb d j all n := by obtain ⟨m, h1, h2⟩ := h; exact ⟨m, h1.later hb, h2⟩
theorem GJ.bel (h : GJ m0 W w F jb d j all n) : Below W.heap.size W w := by obtain ⟨m, h1, h2⟩ := h; exact h1.bel
theorem GJ.fp (h : GJ m0 W w F jb d j all n) : ∀ i, F i → W.heap.size ≤ i ∧ i < w.heap.size := by obtain ⟨m, h1, h2⟩ := h; exact h1.fp
theorem GD.bel (h : GD m0 W w D d j all n) : Below W.heap.size W w := by obtain ⟨m, h1, h2⟩ := h; exact h1.bel
theorem GJ.recs (h : GJ m0 W w F jb d j all n) : j.recs = all.drop j.base ∧ j.last = all.length := by obtain ⟨m, h1, h2⟩ := h; exact ⟨h2.recs, h2.last⟩
theorem GJ.split (h : GJ m0 W w F jb d j all n) : ∃ p cap D, GD m0 W w D d j all n ∧ Held D w jb d j p cap ∧ ∀ i, D i → F i := by
  obtain ⟨m, h1, h2⟩ := h
  obtain ⟨p, cap, D, a, b, c⟩ := aj_split h1
  exact ⟨p, cap, D, ⟨m, a, h2⟩, b, c⟩
theorem gj_open (h : GD m0 W w D d j all n) :
    Calls Try.prog 15 #[.pointer (some ⟨d, 0, none⟩)] w fun e w' => ∃ (jb : Nat) (F' : Nat → Prop), e = .returned (.tuple #[.pointer (some ⟨jb, 0, none⟩), .int .i64 0]) ∧ GJ m0 W w' F' jb d j all n ∧ Step D F' w w' := by
  obtain ⟨m, hA, hG⟩ := h
  obtain ⟨o1, o2, g1⟩ := hG.open
  refine (ad_open hA hG.ok o1 o2).mono ?_
  rintro e w' ⟨jb, F', rfl, hJ, hS⟩
  exact ⟨jb, F', rfl, ⟨_, hJ, g1⟩, hS⟩
theorem gj_app (h : GJ m0 W w F jb d j all n) (s : ByteArray) (hb : s.size ≤ 40000) (hr : m0.tot + n + 16 + s.size ≤ m0.room) (hf : all.length < 33000000) :
    Calls Try.prog 21 #[.pointer (some ⟨jb, 0, none⟩), .string s] w fun e w' => ∃ F' : Nat → Prop, e = .returned (.int .i64 0) ∧ GJ m0 W w' F' jb d { j with recs := j.recs ++ [bl s] } (all ++ [bl s]) (n + (16 + s.size)) ∧ Step F F' w w' := by
  obtain ⟨m, hA, hG⟩ := h
  have hl := bl_length s
  obtain ⟨o1, o2, g1⟩ := hG.app (bl s) (by omega) (by omega) (by omega)
  have hla := hG.last
  refine (aj_app hA hG.ok s hb (by omega) (by unfold JM.last at hla; omega)).mono ?_
  rintro e w' ⟨F', rfl, hJ, hS⟩
  rw [o1]
  rw [o2] at hJ
  rw [hl] at g1
  exact ⟨F', rfl, ⟨_, hJ, g1⟩, hS⟩
theorem gj_snap (h : GJ m0 W w F jb d j all n) (s : ByteArray) (hb : s.size ≤ 40000) (hr : m0.tot + n + 16 + s.size ≤ m0.room) (hf : all.length < 33000000) :
    Calls Try.prog 23 #[.pointer (some ⟨jb, 0, none⟩), .string s] w fun e w' => ∃ F' : Nat → Prop, e = .returned (.int .i64 0) ∧ GJ m0 W w' F' jb d ⟨bl s, all.length, [], false⟩ all (n + (16 + s.size)) ∧ Step F F' w w' := by
  obtain ⟨m, hA, hG⟩ := h
  have hl := bl_length s
  obtain ⟨o1, o2, g1⟩ := hG.snap (bl s) (by omega) (by omega)
  have hla := hG.last
  refine (aj_snap hA hG.ok s hb (by omega)).mono ?_
  rintro e w' ⟨F', rfl, hJ, hS⟩
  rw [o1]
  rw [o2] at hJ
  rw [hl] at g1
  rw [hla] at hJ g1
  exact ⟨F', rfl, ⟨_, hJ, g1⟩, hS⟩
theorem gj_text (h : GJ m0 W w F jb d j all n) :
    Calls Try.prog 25 #[.pointer (some ⟨jb, 0, none⟩)] w fun e w' => e = .returned (.tuple #[sv j.text, .int .i64 (j.base : Nat)]) ∧ ∃ n, w' = w.drewN n := by
  obtain ⟨m, hA, hG⟩ := h
  exact text_any hA.jn
theorem gj_last (h : GJ m0 W w F jb d j all n) (hf : all.length < 33000000) :
    Calls Try.prog 26 #[.pointer (some ⟨jb, 0, none⟩)] w fun e w' => e = .returned (.int .i64 (all.length : Nat)) ∧ ∃ n, w' = w.drewN n := by
  obtain ⟨m, hA, hG⟩ := h
  have hl := hG.last
  rw [← hl]
  exact last_any hA.jn (by omega)
theorem gj_records (h : GJ m0 W w F jb d j all n) (hf : all.length < 33000000) :
    Calls Try.prog 28 #[.pointer (some ⟨jb, 0, none⟩)] w fun e w' => (∃ p cap, e = .returned (.slice p j.recs.length cap) ∧ SRow w' p j.recs.length j.recs) ∧ Below w.heap.size w w' := by
  obtain ⟨m, hA, hG⟩ := h
  have hl := hG.last
  exact records_any hA.jn (by unfold JM.last at hl; omega)
/-- bytes behind a steady log, and then an opening: the journal's object stays -/
theorem gj_spoil (h : GJ m0 W w F jb d j all n) (hr : m0.tot + n + 11 ≤ m0.room) :
    Calls Try.prog 11 #[.pointer (some ⟨d, 0, none⟩), .int .i64 0, .string ⟨#[0, 0, 0, 1, 97, 97, 97, 97, 98, 99, 100]⟩] w fun e w' => (∃ x, e = .returned (.int .i64 x)) ∧ Below W.heap.size W w' ∧
      Calls Try.prog 15 #[.pointer (some ⟨d, 0, none⟩)] w' fun e w'' => e = .returned (.tuple #[.pointer none, .int .i64 8]) ∧ Below W.heap.size W w'' ∧ ∃ p cap, JO w'' jb d j p cap := by
  obtain ⟨m, hA, hG⟩ := h
  obtain ⟨p, cap, D, hD, hH, _⟩ := aj_split hA
  obtain ⟨ok6, x1⟩ := hG.spoil hr
  have e4 : bl (⟨#[0, 0, 0, 1, 97, 97, 97, 97, 98, 99, 100]⟩ : ByteArray) = aX := rfl
  have hap := ad_app hD hG.ok 0 ⟨#[0, 0, 0, 1, 97, 97, 97, 97, 98, 99, 100]⟩
  rw [e4] at hap
  refine hap.mono ?_
  rintro e w' ⟨D', rfl, hD', hS⟩
  refine ⟨⟨_, rfl⟩, hD'.bel, ?_⟩
  refine (ad_open_no hD' ok6 (by rw [x1])).mono ?_
  rintro e w'' ⟨D'', rfl, hD'', hS'⟩
  rw [x1]
  exact ⟨rfl, hD''.bel, p, cap, ((hH.step hS).step hS').jo⟩
end
theorem gd_new (room : Nat) (w : World) (hr : room ≤ 16777216) : Calls Try.prog 9 #[.int .i64 (room : Int)] w fun e w' => ∃ b, ∃ D : Nat → Prop, e = .returned (.tuple #[.pointer (some ⟨b, 0, none⟩), .int .i64 0]) ∧ GD (DM.new room) w w' D b ⟨[], 0, [], false⟩ [] 0 := by
  refine (new_any (fun i => w.heap.size ≤ i) room w hr (fun j h => h)).mono ?_
  rintro e w' ⟨b, rfl, hb, hD, hB⟩
  exact ⟨b, fun i => w.heap.size ≤ i ∧ i < w'.heap.size, rfl, _, ⟨hD.weak fun i hi hp => ⟨hp, hi⟩, fun i hi => hi, hB⟩, Good.new room hr⟩
theorem aw_tot : (DM.new 1000).tot = 0 := rfl
theorem aw_room : (DM.new 1000).room = 1000 := rfl
theorem aw_b1 : bl (⟨#[97]⟩ : ByteArray) = [97] := rfl
theorem aw_b2 : bl (⟨#[111, 110, 101]⟩ : ByteArray) = [111, 110, 101] := rfl
theorem aw_b3 : bl (⟨#[98]⟩ : ByteArray) = [98] := rfl
theorem aw_v2 : sv [111, 110, 101] = .string ⟨#[111, 110, 101]⟩ := rfl
theorem aw_z1 : (⟨#[97]⟩ : ByteArray).size = 1 := rfl
theorem aw_z2 : (⟨#[111, 110, 101]⟩ : ByteArray).size = 3 := rfl
theorem aw_z3 : (⟨#[98]⟩ : ByteArray).size = 1 := rfl

set_option maxHeartbeats 8000000 in
set_option maxRecDepth 100000 in
theorem awake_any (w : World) : Calls Try.prog 7 #[] w fun e w' => e = .returned (.bool true) ∧ Below w.heap.size w w' := by
  go_enter Try.func7, Try.ntmps7
  go_wp2_with fail
  refine (gd_new 1000 w (by omega)).mono ?_
  rintro e w1 ⟨d, D1, rfl, g1⟩
  replace g1 := Lib.hid g1
  go_wp2_with fail
  refine (gj_open g1.out).mono ?_
  rintro e w2 ⟨jb, F2, rfl, g2, _⟩
  replace g2 := Lib.hid g2
  clear g1
  go_wp2_with fail
  refine (nil_any w2).mono ?_
  rintro e w3 ⟨rfl, hb3⟩
  replace g2 := Lib.hid (g2.out.later hb3)
  clear hb3
  go_wp2_with fail
  refine (gj_app g2.out _ (by rw [aw_z1]; omega) (by rw [aw_tot, aw_room, aw_z1]; omega) (by simp)).mono ?_
  rintro e w4 ⟨F4, rfl, g3, _⟩
  rw [aw_z1, aw_b1] at g3
  simp only [List.nil_append] at g3
  replace g3 := Lib.hid g3
  clear g2
  go_wp2_with fail
  refine (gj_snap g3.out _ (by rw [aw_z2]; omega) (by rw [aw_tot, aw_room, aw_z2]; omega) (by simp)).mono ?_
  rintro e w5 ⟨F5, rfl, g4, _⟩
  rw [aw_z2, aw_b2] at g4
  simp only [List.length_cons, List.length_nil] at g4
  replace g4 := Lib.hid g4
  clear g3
  go_wp2_with fail
  refine (gj_app g4.out _ (by rw [aw_z3]; omega) (by rw [aw_tot, aw_room, aw_z3]; omega) (by simp)).mono ?_
  rintro e w6 ⟨F6, rfl, g5, _⟩
  rw [aw_z3, aw_b3] at g5
  simp only [List.nil_append] at g5
  replace g5 := Lib.hid g5
  clear g4
  go_wp2_with fail
  refine (gj_open g5.out.gd).mono ?_
  rintro e w7 ⟨kb, F7, rfl, g6, _⟩
  replace g6 := Lib.hid g6
  clear g5
  go_wp2_with fail
  refine (gj_text g6.out).mono ?_
  rintro e w8 ⟨rfl, n8, hw8⟩
  have g7 := g6.out.later (w' := w8) (by rw [hw8]; exact below_dn (Below.refl _ _) n8)
  clear hw8
  simp only [Nat.zero_add]
  rw [aw_v2]
  replace g7 := Lib.hid g7
  clear g6
  go_wp2_with fail
  refine (gj_spoil g7.out (by rw [aw_tot, aw_room]; omega)).mono ?_
  rintro e w9 ⟨⟨x9, rfl⟩, hb9, c9⟩
  replace hb9 := Lib.hid hb9
  replace c9 := Lib.hid c9
  clear g7
  go_wp2_with fail
  refine c9.out.mono ?_
  rintro e w10 ⟨rfl, hb10, p, cap, hO⟩
  have cR := recordsO_any hO (by decide)
  have cL := fun w' (h : Below w10.heap.size w10 w') => lastO_any (hO.below h) (by decide)
  have cS := fun (p1 : Option Addr) (cap1 : Nat) (w' : World) (h1 : SRow w' p1 1 [[98]]) => same_any p1 (some ⟨w'.heap.size, 0, none⟩) 1 1 cap1 1 [[98]] [bl (⟨#[98]⟩ : ByteArray)] (w'.alloc (.cells #[.string ⟨#[98]⟩] 9)) (h1.kept ((Below.refl _ _).alloc (Nat.le_refl _) _)) (srow_one w' _) (by omega)
  rw [aw_b3, decide_eq_true rfl] at cS
  simp only [List.length_cons, List.length_nil] at cR
  have hlast : (⟨[111, 110, 101], 0 + 1, [[98]], false⟩ : JM).last = 2 := rfl
  rw [hlast] at cL
  replace hb10 := Lib.hid hb10
  replace hO := Lib.hid hO
  replace cR := Lib.hid cR
  replace cL := Lib.hid cL
  replace cS := Lib.hid cS
  go_wp2_with (first
    | (go_at_call 28; (refine cR.out.mono ?_); rintro e w11 ⟨⟨p1, cap1, rfl, hs1⟩, hb11⟩; replace hs1 := Lib.hid hs1; replace hb11 := Lib.hid hb11)
    | (go_at_call 27; (refine (cS.out _ _ _ hs1.out).mono ?_); rintro e w12 ⟨rfl, n12, hw12⟩; have hb12 : Below w10.heap.size w10 w12 := (by rw [hw12]; exact below_dn (hb11.out.alloc hb11.out.size _) n12); clear hw12; replace hb12 := Lib.hid hb12)
    | (go_at_call 26; (refine (cL.out _ hb12.out).mono ?_); rintro e w13 ⟨rfl, n13, rfl⟩))
  go_ret
  exact ⟨rfl, hb10.out.trans ((below_dn hb12.out n13).mono hb10.out.size)⟩
end Go.Proofs.Ytidofjjghbhaaaa
