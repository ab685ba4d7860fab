/- Journals in memory, through fuses and crashes: appends and snapshots that go through, or not; openings. -/
import Derived.Test.YtidofjjghbhaaaaPA
namespace Go.Proofs.Ytidofjjghbhaaaa
open Go.RowKit
set_option linter.unusedVariables false

/-- a steady journal -/
def SJ (W w : World) (F : Nat → Prop) (jb d : Nat) (j : JM) (all : List (List UInt8)) (T : Nat → List UInt8 → Prop) : Prop := ∃ m, AJ W w F jb d m j ∧ m.Ok ∧ ∃ a, Steady m j all T a
/-- a disk that keeps records of which n are sure -/
def LD (W w : World) (F : Nat → Prop) (d : Nat) (all : List (List UInt8)) (T : Nat → List UInt8 → Prop) (n : Nat) : Prop := ∃ m, AD W w F d m ∧ Lv m all T n
section
variable {W w w' : World} {F D : Nat → Prop} {jb d : Nat} {j : JM} {all : List (List UInt8)} {T : Nat → List UInt8 → Prop} {n : Nat}
theorem SJ.later (h : SJ W w F jb d j all T) (hb : Below w.heap.size w w') : SJ W w' F jb d j all T := by obtain ⟨m, h1, h2⟩ := h; exact ⟨m, h1.later hb, h2⟩
theorem SJ.bel (h : SJ W w F jb d j all T) : Below W.heap.size W w := by obtain ⟨m, h1, h2⟩ := h; exact h1.bel
theorem SJ.fp (h : SJ W w F jb d j all T) : ∀ i, F i → W.heap.size ≤ i ∧ i < w.heap.size := by obtain ⟨m, h1, h2⟩ := h; exact h1.fp
theorem SJ.last (h : SJ W w F jb d j all T) : j.last = all.length := by obtain ⟨m, h1, h2, a, h3⟩ := h; exact h3.last
theorem SJ.mono {T' : Nat → List UInt8 → Prop} (h : SJ W w F jb d j all T) (hT : ∀ n t, T n t → T' n t) : SJ W w F jb d j all T' := by
  obtain ⟨m, h1, h2, a, h3⟩ := h
  exact ⟨m, h1, h2, a, { h3 with kept := h3.kept.given' hT }⟩
theorem SJ.ld (h : SJ W w F jb d j all T) : LD W w F d all T all.length := by
  obtain ⟨m, h1, h2, a, h3⟩ := h
  exact ⟨m, h1.ad, h3.lv h2⟩
theorem SJ.apart {Q : Nat → Prop} (h : SJ W w F jb d j all T) (hK : Kp Q w w') (hQ : ∀ i, i < w.heap.size → Q i → ¬ F i ∧ W.heap.size ≤ i) : SJ W w' F jb d j all T := by
  obtain ⟨m, h1, h2⟩ := h
  exact ⟨m, ⟨h1.jn.kept hK fun i hi hf hq => (hQ i hi hq).1 hf, fun i hi => ⟨(h1.fp i hi).1, Nat.lt_of_lt_of_le (h1.fp i hi).2 hK.size⟩, h1.bel.trans ((hK.mono (G := fun i => W.heap.size ≤ i) fun i hi hq => (hQ i hi hq).2).below h1.bel.size fun j hj hF => by omega)⟩, h2⟩
theorem LD.later (h : LD W w F d all T n) (hb : Below w.heap.size w w') : LD W w' F d all T n := by obtain ⟨m, h1, h2⟩ := h; exact ⟨m, h1.later hb, h2⟩
theorem LD.bel (h : LD W w F d all T n) : Below W.heap.size W w := by obtain ⟨m, h1, h2⟩ := h; exact h1.bel
theorem LD.fp (h : LD W w F d all T n) : ∀ i, F i → W.heap.size ≤ i ∧ i < w.heap.size := by obtain ⟨m, h1, h2⟩ := h; exact h1.fp
theorem gj_sj {m0 : DM} {k : Nat} (h : GJ m0 W w F jb d j all k) : SJ W w F jb d j all anyT := by
  obtain ⟨m, h1, h2⟩ := h
  exact ⟨m, h1, h2.ok, h2.st⟩
/-- the first opening of a new disk -/
theorem sj_new (room : Nat) (T : Nat → List UInt8 → Prop) (h0 : T 0 []) (hr : room ≤ 16777216) (h : AD W w D d (DM.new room)) :
    Calls Try.prog 15 #[.pointer (some ⟨d, 0, none⟩)] w fun e w' => ∃ (jb : Nat) (F' : Nat → Prop), e = .returned (.tuple #[.pointer (some ⟨jb, 0, none⟩), .int .i64 0]) ∧ SJ W w' F' jb d ⟨[], 0, [], false⟩ [] T ∧ Step D F' w w' := by
  obtain ⟨h1, h2, h3, h4⟩ := open_same (steady_new room T h0) (DM.new_ok room hr) (Free.new room)
  refine (ad_open h (DM.new_ok room hr) h1 h2).mono ?_
  rintro e w' ⟨jb, F', rfl, hJ, hS⟩
  exact ⟨jb, F', rfl, ⟨_, hJ, (okOpenJ (DM.new_ok room hr)).1, _, h3⟩, hS⟩
theorem ad_new (room : Nat) (w : World) (hr : room ≤ 16777216) : Calls Try.prog 9 #[.int .i64 (room : Int)] w fun e w' => ∃ b, ∃ D : Nat → Prop, e = .returned (.tuple #[.pointer (some ⟨b, 0, none⟩), .int .i64 0]) ∧ AD w w' D b (DM.new room) := by
  refine (new_any (fun i => w.heap.size ≤ i) room w hr (fun j h => h)).mono ?_
  rintro e w' ⟨b, rfl, hb, hD, hB⟩
  exact ⟨b, fun i => w.heap.size ≤ i ∧ i < w'.heap.size, rfl, hD.weak fun i hi hp => ⟨hp, hi⟩, fun i hi => hi, hB⟩
theorem sj_fuse (x : Int) (hx : x ≤ 9223372036854775807) (h : SJ W w F jb d j all T) :
    Calls Try.prog 18 #[.pointer (some ⟨d, 0, none⟩), .int .i64 x] w fun e w' => ∃ F' : Nat → Prop, e = .returned (.tuple #[]) ∧ SJ W w' F' jb d j all T ∧ Step F F' w w' := by
  obtain ⟨m, h1, h2, a, h3⟩ := h
  refine (aj_fuse h1 x).mono ?_
  rintro e w' ⟨F', rfl, hJ, hS⟩
  exact ⟨F', rfl, ⟨_, hJ, h2.setf x hx, a, { kept := h3.kept.same rfl rfl rfl, sure := h3.sure, recs := h3.recs, whole := h3.whole }⟩, hS⟩
theorem ld_fuse (x : Int) (hx : x ≤ 9223372036854775807) (h : LD W w F d all T n) :
    Calls Try.prog 18 #[.pointer (some ⟨d, 0, none⟩), .int .i64 x] w fun e w' => ∃ F' : Nat → Prop, e = .returned (.tuple #[]) ∧ LD W w' F' d all T n ∧ Step F F' w w' := by
  obtain ⟨m, h1, h2⟩ := h
  refine (ad_fuse h1 x).mono ?_
  rintro e w' ⟨F', rfl, hJ, hS⟩
  exact ⟨F', rfl, ⟨_, hJ, h2.setf x hx⟩, hS⟩
theorem sj_app (s : ByteArray) (hb : s.size ≤ 40000) (hf : all.length < 33000000) (h : SJ W w F jb d j all T) :
    Calls Try.prog 21 #[.pointer (some ⟨jb, 0, none⟩), .string s] w fun e w' => ∃ (F' : Nat → Prop) (x : Int), e = .returned (.int .i64 x) ∧ Step F F' w w' ∧
      (x = 0 ∧ (∃ j', SJ W w' F' jb d j' (all ++ [bl s]) T) ∨ x ≠ 0 ∧ ∃ all', all' <+: all ++ [bl s] ∧ LD W w' F' d all' T all.length) := by
  obtain ⟨m, h1, h2, h3⟩ := h
  have hla : j.last = all.length := by obtain ⟨a, h3⟩ := h3; exact h3.last
  refine (aj_app h1 h2 s hb (by omega) (by unfold JM.last at hla; omega)).mono ?_
  rintro e w' ⟨F', rfl, hJ, hS⟩
  refine ⟨F', _, rfl, hS, ?_⟩
  rcases app_lv h3 h2 (bl s) (by omega) with ⟨a1, a2⟩ | ⟨a1, all', a2, a3⟩
  · exact .inl ⟨a1, _, _, hJ, (okAppJ h2 j _).1, a2⟩
  · exact .inr ⟨a1, all', a2, _, hJ.ad, a3⟩
theorem sj_snap (s : ByteArray) (hb : s.size ≤ 40000) (hf : all.length < 33000000) (ht : T all.length (bl s)) (h : SJ W w F jb d j all T) :
    Calls Try.prog 23 #[.pointer (some ⟨jb, 0, none⟩), .string s] w fun e w' => ∃ (F' : Nat → Prop) (x : Int), e = .returned (.int .i64 x) ∧ Step F F' w w' ∧
      (x = 0 ∧ (∃ j', SJ W w' F' jb d j' all T) ∨ x ≠ 0 ∧ LD W w' F' d all T all.length) := by
  obtain ⟨m, h1, h2, h3⟩ := h
  have hla : j.last = all.length := by obtain ⟨a, h3⟩ := h3; exact h3.last
  refine (aj_snap h1 h2 s hb (by omega)).mono ?_
  rintro e w' ⟨F', rfl, hJ, hS⟩
  refine ⟨F', _, rfl, hS, ?_⟩
  rcases snap_lv h3 h2 (bl s) ht with ⟨a1, a2⟩ | ⟨a1, a3⟩
  · exact .inl ⟨a1, _, _, hJ, (okSnapJ h2 j _).1, a2⟩
  · exact .inr ⟨a1, _, hJ.ad, a3⟩
/-- a crash: what is kept then -/
def CD (W w : World) (F : Nat → Prop) (d : Nat) (all : List (List UInt8)) (T : Nat → List UInt8 → Prop) (n : Nat) : Prop := ∃ m, AD W w F d m ∧ Lv m all T n ∧ m.S 0 = (m.B 0).length
theorem ld_crash (K : Nat → Int) (hk : ∀ k, K k ≤ 9223372036854775807) (h : LD W w F d all T n) :
    Calls Try.prog 19 #[.pointer (some ⟨d, 0, none⟩), .agg #[.int .i64 (K 0), .int .i64 (K 1), .int .i64 (K 2), .int .i64 (K 3)]] w fun e w' => ∃ F' : Nat → Prop, e = .returned (.tuple #[]) ∧ (∃ m, AD W w' F' d m ∧ Lv m all T n ∧ m.S 0 = (m.B 0).length ∧ Free m) ∧ Step F F' w w' := by
  obtain ⟨m, h1, h2⟩ := h
  refine (ad_crash h1 h2.ok K hk).mono ?_
  rintro e w' ⟨F', rfl, hJ, hS⟩
  obtain ⟨c1, c2⟩ := h2.crash K
  exact ⟨F', rfl, ⟨_, hJ, c1, c2, crash_free _ K⟩, hS⟩
/-- an opening behind a crash -/
theorem cd_open (h : ∃ m, AD W w F d m ∧ Lv m all T n ∧ m.S 0 = (m.B 0).length ∧ Free m) :
    Calls Try.prog 15 #[.pointer (some ⟨d, 0, none⟩)] w fun e w' => ∃ (jb : Nat) (F' : Nat → Prop) (j : JM), e = .returned (.tuple #[.pointer (some ⟨jb, 0, none⟩), .int .i64 0]) ∧ Opn j all T n ∧ SJ W w' F' jb d j (all.take j.last) T ∧ Step F F' w w' := by
  obtain ⟨m, h1, h2, h3, h4⟩ := h
  obtain ⟨j, a1, a2, a3, a4⟩ := h2.open_free h3 h4
  refine (ad_open h1 h2.ok (by rw [a1]) (by rw [a1])).mono ?_
  rintro e w' ⟨jb, F', rfl, hJ, hS⟩
  exact ⟨jb, F', j, rfl, a2, ⟨_, hJ, a3, a4⟩, hS⟩
/-- a fuse behind a crash -/
theorem cd_fuse (x : Int) (hx : x ≤ 9223372036854775807) (h : ∃ m, AD W w F d m ∧ Lv m all T n ∧ m.S 0 = (m.B 0).length ∧ Free m) :
    Calls Try.prog 18 #[.pointer (some ⟨d, 0, none⟩), .int .i64 x] w fun e w' => ∃ F' : Nat → Prop, e = .returned (.tuple #[]) ∧ CD W w' F' d all T n ∧ Step F F' w w' := by
  obtain ⟨m, h1, h2, h3, _⟩ := h
  refine (ad_fuse h1 x).mono ?_
  rintro e w' ⟨F', rfl, hJ, hS⟩
  exact ⟨F', rfl, ⟨_, hJ, h2.setf x hx, h3⟩, hS⟩
theorem CD.later (h : CD W w F d all T n) (hb : Below w.heap.size w w') : CD W w' F d all T n := by obtain ⟨m, h1, h2⟩ := h; exact ⟨m, h1.later hb, h2⟩
theorem CD.bel (h : CD W w F d all T n) : Below W.heap.size W w := by obtain ⟨m, h1, h2⟩ := h; exact h1.bel
/-- the disk of a steady journal -/
def SD (W w : World) (F : Nat → Prop) (d : Nat) (j : JM) (all : List (List UInt8)) (T : Nat → List UInt8 → Prop) : Prop := ∃ m, AD W w F d m ∧ m.Ok ∧ ∃ a, Steady m j all T a
theorem SD.bel (h : SD W w F d j all T) : Below W.heap.size W w := by obtain ⟨m, h1, h2⟩ := h; exact h1.bel
/-- an opening under a fuse: it goes through, and its journal is held beside its disk; or there is no power -/
theorem cf_open (h : CD W w F d all T n) :
    Calls Try.prog 15 #[.pointer (some ⟨d, 0, none⟩)] w fun e w' => ∃ F' : Nat → Prop, Step F F' w w' ∧
      ((∃ (jb : Nat) (j : JM) (p : Option Addr) (cap : Nat), e = .returned (.tuple #[.pointer (some ⟨jb, 0, none⟩), .int .i64 0]) ∧ Opn j all T n ∧ SD W w' F' d j (all.take j.last) T ∧ Held F' w' jb d j p cap) ∨
       (e = .returned (.tuple #[.pointer none, .int .i64 9]) ∧ LD W w' F' d all T n)) := by
  obtain ⟨m, h1, h2, h3⟩ := h
  rcases h2.open h3 with ⟨j, a1, a2, a3, a4⟩ | ⟨a1, a2⟩
  · refine (ad_open h1 h2.ok (by rw [a1]) (by rw [a1])).mono ?_
    rintro e w' ⟨jb, F', rfl, hJ, hS⟩
    obtain ⟨p, cap, D, b1, b2, b3⟩ := aj_split hJ
    exact ⟨D, ⟨hS.kp, fun i hi => hS.sub i (b3 i hi)⟩, .inl ⟨jb, j, p, cap, rfl, a2, ⟨_, b1, a3, a4⟩, b2⟩⟩
  · refine (ad_open_no h1 h2.ok (by rw [a1])).mono ?_
    rintro e w' ⟨F', rfl, hJ, hS⟩
    exact ⟨F', hS, .inr ⟨by rw [a1], _, hJ, a2⟩⟩
/-- a crash of the disk of a steady journal: the next opening tells the same -/
theorem sd_crash (K : Nat → Int) (hk : ∀ k, K k ≤ 9223372036854775807) (h : SD W w F d j all T) :
    Calls Try.prog 19 #[.pointer (some ⟨d, 0, none⟩), .agg #[.int .i64 (K 0), .int .i64 (K 1), .int .i64 (K 2), .int .i64 (K 3)]] w fun e w' => ∃ F' : Nat → Prop, e = .returned (.tuple #[]) ∧ (∃ m, AD W w' F' d m ∧ m.Ok ∧ openJ m = (0, (openJ m).2.1, some j)) ∧ Step F F' w w' := by
  obtain ⟨m, h1, h2, h3⟩ := h
  refine (ad_crash h1 h2 K hk).mono ?_
  rintro e w' ⟨F', rfl, hJ, hS⟩
  exact ⟨F', rfl, ⟨_, hJ, h2.crash _ _ _ _, twice h3 h2 K⟩, hS⟩
/-- a journal that can be read -/
def VJ (W w : World) (F : Nat → Prop) (jb d : Nat) (j : JM) : Prop := ∃ m, AJ W w F jb d m j
theorem VJ.later (h : VJ W w F jb d j) (hb : Below w.heap.size w w') : VJ W w' F jb d j := by obtain ⟨m, h1⟩ := h; exact ⟨m, h1.later hb⟩
theorem VJ.bel (h : VJ W w F jb d j) : Below W.heap.size W w := by obtain ⟨m, h1⟩ := h; exact h1.bel
theorem SJ.vj (h : SJ W w F jb d j all T) : VJ W w F jb d j := by obtain ⟨m, h1, _⟩ := h; exact ⟨m, h1⟩
theorem sd_open (h : ∃ m, AD W w F d m ∧ m.Ok ∧ openJ m = (0, (openJ m).2.1, some j)) :
    Calls Try.prog 15 #[.pointer (some ⟨d, 0, none⟩)] w fun e w' => ∃ (jb : Nat) (F' : Nat → Prop), e = .returned (.tuple #[.pointer (some ⟨jb, 0, none⟩), .int .i64 0]) ∧ VJ W w' F' jb d j ∧ Step F F' w w' := by
  obtain ⟨m, h1, h2, h3⟩ := h
  refine (ad_open h1 h2 (by rw [h3]) (by rw [h3])).mono ?_
  rintro e w' ⟨jb, F', rfl, hJ, hS⟩
  exact ⟨jb, F', rfl, ⟨_, hJ⟩, hS⟩
theorem vj_text (h : VJ W w F jb d j) :
    Calls Try.prog 25 #[.pointer (some ⟨jb, 0, none⟩)] w fun e w' => e = .returned (.tuple #[sv j.text, .int .i64 (j.base : Nat)]) ∧ ∃ n, w' = w.drewN n := by
  obtain ⟨m, hA⟩ := h
  exact text_any hA.jn
theorem vj_last (h : VJ W w F jb d j) (hl : j.last < 33000000) :
    Calls Try.prog 26 #[.pointer (some ⟨jb, 0, none⟩)] w fun e w' => e = .returned (.int .i64 (j.last : Nat)) ∧ ∃ n, w' = w.drewN n := by
  obtain ⟨m, hA⟩ := h
  exact last_any hA.jn (by omega)
theorem vj_records (h : VJ W w F jb d j) (hl : j.last < 33000000) :
    Calls Try.prog 28 #[.pointer (some ⟨jb, 0, none⟩)] w fun e w' => (∃ p cap, e = .returned (.slice p j.recs.length cap) ∧ SRow w' p j.recs.length j.recs) ∧ Below w.heap.size w w' := by
  obtain ⟨m, hA⟩ := h
  exact records_any hA.jn (by unfold JM.last at hl; omega)
end
end Go.Proofs.Ytidofjjghbhaaaa
