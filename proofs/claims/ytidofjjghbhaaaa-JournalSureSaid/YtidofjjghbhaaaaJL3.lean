/- Calls of the laws on both sides, the other one and what stays untouched. -/
import Derived.Test.YtidofjjghbhaaaaJL2
namespace Go.Proofs.Ytidofjjghbhaaaa
open Go.RowKit
set_option linter.unusedVariables false

section
variable {G : Nat → Prop} {X Y : (Nat → Prop) → World → Prop} {w : World} {d r jb rb : Nat} {m : DM} {oj : Option JM} {j : JM}

theorem st_openP (I : JI) (lY : Live Y) (hG : ∀ j, G j → j < w.heap.size) (h : Apart G (PX I d m oj jb) Y w) (ok : m.Ok) :
    Calls Try.prog 15 #[.pointer (some ⟨d, 0, none⟩)] w fun e w' => ∃ jb' : Nat, e = .returned (.tuple #[jp (openJ m).2.2 jb', .int .i64 (openJ m).1]) ∧ Apart G (PX I d (openJ m).2.1 (openJ m).2.2 jb') Y w' ∧ Kp (fun j => ¬ G j) w w' := by
  refine (h.map (X' := fun P w => IsD P w d m) (fun P hx => hx.disk)).call (φ := fun jb' e => e = .returned (.tuple #[jp (openJ m).2.2 jb', .int .i64 (openJ m).1])) (X' := fun jb' => PX I d (openJ m).2.1 (openJ m).2.2 jb') (liveD d m) (fun _ => livePX I _ _ _ _) lY hG fun P hx hn => ?_
  refine (I.opens P d m w hx ok hn).mono ?_
  rintro e w' ⟨jb', he, hs, hk⟩
  refine ⟨jb', ?_, ?_, hk⟩
  · rw [he]; unfold jp; cases (openJ m).2.2 <;> rfl
  · unfold PX; cases hq : (openJ m).2.2 <;> rw [hq] at hs <;> exact hs
theorem st_openR (lX : Live X) (hG : ∀ j, G j → j < w.heap.size) (h : Apart G X (RX r m oj rb) w) (ok : m.Ok) :
    Calls Try.prog 16 #[.pointer (some ⟨r, 0, none⟩)] w fun e w' => ∃ rb' : Nat, e = .returned (.tuple #[jp (openJ m).2.2 rb', .int .i64 (openJ m).1]) ∧ Apart G X (RX r (openJ m).2.1 (openJ m).2.2 rb') w' ∧ Kp (fun j => ¬ G j) w w' := by
  refine ((h.swap.map (X' := fun P w => IsR w r m ∧ P r) (fun P hx => hx.disk)).call (φ := fun jb' e => e = .returned (.tuple #[jp (openJ m).2.2 jb', .int .i64 (openJ m).1])) (X' := fun jb' => RX r (openJ m).2.1 (openJ m).2.2 jb') (liveR r m) (fun _ => liveRX _ _ _ _) lX hG fun P hx hn => ?_).mono ?_
  · refine (openR_any P r m w hx.1 ok hn hx.2).mono ?_
    rintro e w' ⟨hk, hs⟩
    cases hq : (openJ m).2.2 with
    | none => rw [hq] at hs; exact ⟨0, hs.1, ⟨hs.2, hx.2⟩, hk⟩
    | some j => rw [hq] at hs; obtain ⟨jb', he, _, hj⟩ := hs; exact ⟨jb', he, hj, hk⟩
  · rintro e w' ⟨x, he, ha, hk⟩
    exact ⟨x, he, ha.swap, hk⟩
theorem st_appP (I : JI) (lY : Live Y) (hG : ∀ j, G j → j < w.heap.size) (h : Apart G (PX I d m (some j) jb) Y w) (ok : m.Ok) (s : ByteArray) (hs : s.size ≤ 40000) (hl : j.last < 9223372036854000000) (hrl : j.recs.length < 33000000) :
    Calls Try.prog 21 #[.pointer (some ⟨jb, 0, none⟩), .string s] w fun e w' => e = .returned (.int .i64 (appJ m j (bl s)).1) ∧ Apart G (PX I d (appJ m j (bl s)).2.1 (some (appJ m j (bl s)).2.2) jb) Y w' ∧ Kp (fun j => ¬ G j) w w' := by
  refine (h.call (φ := fun (_ : Unit) e => e = .returned (.int .i64 (appJ m j (bl s)).1)) (X' := fun _ => PX I d (appJ m j (bl s)).2.1 (some (appJ m j (bl s)).2.2) jb) (livePX I _ _ _ _) (fun _ => livePX I _ _ _ _) lY hG fun P hx hn => ?_).mono ?_
  · exact (I.app P jb d m j s w hx ok hn hs hl hrl).mono fun e w' ⟨a, b, c⟩ => ⟨(), a, b, c⟩
  · rintro e w' ⟨_, he, ha, hk⟩
    exact ⟨he, ha, hk⟩
theorem st_appR (lX : Live X) (hG : ∀ j, G j → j < w.heap.size) (h : Apart G X (RX r m (some j) rb) w) (ok : m.Ok) (s : ByteArray) (hs : s.size ≤ 40000) (hl : j.last < 9223372036854000000) (hrl : j.recs.length < 33000000) :
    Calls Try.prog 22 #[.pointer (some ⟨rb, 0, none⟩), .string s] w fun e w' => e = .returned (.int .i64 (appJ m j (bl s)).1) ∧ Apart G X (RX r (appJ m j (bl s)).2.1 (some (appJ m j (bl s)).2.2) rb) w' ∧ Kp (fun j => ¬ G j) w w' := by
  refine (h.swap.call (φ := fun (_ : Unit) e => e = .returned (.int .i64 (appJ m j (bl s)).1)) (X' := fun _ => RX r (appJ m j (bl s)).2.1 (some (appJ m j (bl s)).2.2) rb) (liveRX _ _ _ _) (fun _ => liveRX _ _ _ _) lX hG fun P hx hn => ?_).mono ?_
  · exact (appJR_any P rb r m j s w hx ok hn hs hl hrl).mono fun e w' ⟨a, b, c⟩ => ⟨(), a, b, c⟩
  · rintro e w' ⟨_, he, ha, hk⟩
    exact ⟨he, ha.swap, hk⟩
theorem st_snapP (I : JI) (lY : Live Y) (hG : ∀ j, G j → j < w.heap.size) (h : Apart G (PX I d m (some j) jb) Y w) (ok : m.Ok) (s : ByteArray) (hs : s.size ≤ 40000) (hl : j.last < 9223372036854000000) :
    Calls Try.prog 23 #[.pointer (some ⟨jb, 0, none⟩), .string s] w fun e w' => e = .returned (.int .i64 (snapJ m j (bl s)).1) ∧ Apart G (PX I d (snapJ m j (bl s)).2.1 (some (snapJ m j (bl s)).2.2) jb) Y w' ∧ Kp (fun j => ¬ G j) w w' := by
  refine (h.call (φ := fun (_ : Unit) e => e = .returned (.int .i64 (snapJ m j (bl s)).1)) (X' := fun _ => PX I d (snapJ m j (bl s)).2.1 (some (snapJ m j (bl s)).2.2) jb) (livePX I _ _ _ _) (fun _ => livePX I _ _ _ _) lY hG fun P hx hn => ?_).mono ?_
  · exact (I.snap P jb d m j s w hx ok hn hs hl).mono fun e w' ⟨a, b, c⟩ => ⟨(), a, b, c⟩
  · rintro e w' ⟨_, he, ha, hk⟩
    exact ⟨he, ha, hk⟩
theorem st_snapR (lX : Live X) (hG : ∀ j, G j → j < w.heap.size) (h : Apart G X (RX r m (some j) rb) w) (ok : m.Ok) (s : ByteArray) (hs : s.size ≤ 40000) (hl : j.last < 9223372036854000000) :
    Calls Try.prog 24 #[.pointer (some ⟨rb, 0, none⟩), .string s] w fun e w' => e = .returned (.int .i64 (snapJ m j (bl s)).1) ∧ Apart G X (RX r (snapJ m j (bl s)).2.1 (some (snapJ m j (bl s)).2.2) rb) w' ∧ Kp (fun j => ¬ G j) w w' := by
  refine (h.swap.call (φ := fun (_ : Unit) e => e = .returned (.int .i64 (snapJ m j (bl s)).1)) (X' := fun _ => RX r (snapJ m j (bl s)).2.1 (some (snapJ m j (bl s)).2.2) rb) (liveRX _ _ _ _) (fun _ => liveRX _ _ _ _) lX hG fun P hx hn => ?_).mono ?_
  · exact (snapJR_any P rb r m j s w hx ok hs hl).mono fun e w' ⟨a, b, c⟩ => ⟨(), a, b, c⟩
  · rintro e w' ⟨_, he, ha, hk⟩
    exact ⟨he, ha.swap, hk⟩
theorem st_fuseP (I : JI) (lY : Live Y) (hG : ∀ j, G j → j < w.heap.size) (h : Apart G (PX I d m oj jb) Y w) (n : Int) :
    Calls Try.prog 18 #[.pointer (some ⟨d, 0, none⟩), .int .i64 n] w fun e w' => e = .returned (.tuple #[]) ∧ Apart G (PX I d (m.setf n) oj jb) Y w' ∧ Kp (fun j => ¬ G j) w w' := by
  refine (h.call (φ := fun (_ : Unit) e => e = .returned (.tuple #[])) (X' := fun _ => PX I d (m.setf n) oj jb) (livePX I _ _ _ _) (fun _ => livePX I _ _ _ _) lY hG fun P hx hn => ?_).mono ?_
  · cases oj with
    | none =>
      obtain ⟨vs, hv⟩ := hx
      exact (fuse_any P d m vs n w hv).mono fun e w' ⟨a, b, c⟩ => ⟨(), a, ⟨vs, b⟩, c.mono fun j _ e => by subst e; exact hv.own⟩
    | some j => exact (I.fuse n hx).mono fun e w' ⟨a, b, c⟩ => ⟨(), a, b, c⟩
  · rintro e w' ⟨_, he, ha, hk⟩
    exact ⟨he, ha, hk⟩
theorem IsR.setf {w : World} {r : Nat} {m : DM} (h : IsR w r m) (n : Int) : IsR (w.setCell ⟨r, 9, none⟩ (.int .i64 (max n (-1)))) r (m.setf n) := obj_set h 9 _
theorem st_fuseR (lX : Live X) (hG : ∀ j, G j → j < w.heap.size) (h : Apart G X (RX r m oj rb) w) (n : Int) :
    Apart G X (RX r (m.setf n) oj rb) (w.setCell ⟨r, 9, none⟩ (.int .i64 (max n (-1)))) ∧ Kp (fun j => ¬ G j) w (w.setCell ⟨r, 9, none⟩ (.int .i64 (max n (-1)))) := by
  obtain ⟨PF, RF, hX, hY, h1, h2⟩ := h
  have hd := hY.disk
  have hk : Kp (· = r) w (w.setCell ⟨r, 9, none⟩ (.int .i64 (max n (-1)))) := kp_set
  refine ⟨⟨PF, RF, lX.kept hX hk (fun j _ hp e => (h1 j hp).1 (e ▸ hd.2)), ?_, fun j hj => ⟨(h1 j hj).1, (h1 j hj).2.1, by simpa using (h1 j hj).2.2⟩, fun j hj => ⟨(h2 j hj).1, by simpa using (h2 j hj).2⟩⟩, hk.mono fun j _ e hg => (h2 j (e ▸ hd.2)).1 hg⟩
  cases oj with
  | none => exact ⟨hd.1.setf n, hd.2⟩
  | some j => exact RJ.disked hY (hd.1.setf n) hk
theorem st_crashP (I : JI) (lY : Live Y) (hG : ∀ j, G j → j < w.heap.size) (h : Apart G (PX I d m oj jb) Y w) (ok : m.Ok) (xs : Nat → Int) (hx : ∀ k, xs k ≤ 9223372036854775807) :
    Calls Try.prog 19 #[.pointer (some ⟨d, 0, none⟩), .agg #[.int .i64 (xs 0), .int .i64 (xs 1), .int .i64 (xs 2), .int .i64 (xs 3)]] w fun e w' => e = .returned (.tuple #[]) ∧ Apart G (PX I d (m.crash (xs 0) (xs 1) (xs 2) (xs 3)) none jb) Y w' ∧ Kp (fun j => ¬ G j) w w' := by
  refine ((h.map (X' := fun P w => IsD P w d m) (fun P hx => hx.disk)).call (φ := fun (_ : Unit) e => e = .returned (.tuple #[])) (X' := fun _ => PX I d (m.crash (xs 0) (xs 1) (xs 2) (xs 3)) none jb) (liveD d m) (fun _ => livePX I _ _ _ _) lY hG fun P hp hn => ?_).mono ?_
  · exact (crash_any P d m xs w hp ok hn hx).mono fun e w' ⟨a, b, c⟩ => ⟨(), a, b, c⟩
  · rintro e w' ⟨_, he, ha, hk⟩
    exact ⟨he, ha, hk⟩
theorem st_crashR (lX : Live X) (hG : ∀ j, G j → j < w.heap.size) (h : Apart G X (RX r m oj rb) w) (ok : m.Ok) (xs : Nat → Int) (hx : ∀ k, xs k ≤ 9223372036854775807) :
    Calls Try.prog 20 #[.pointer (some ⟨r, 0, none⟩), .agg #[.int .i64 (xs 0), .int .i64 (xs 1), .int .i64 (xs 2), .int .i64 (xs 3)]] w fun e w' => e = .returned (.tuple #[]) ∧ Apart G X (RX r (m.crash (xs 0) (xs 1) (xs 2) (xs 3)) none rb) w' ∧ Kp (fun j => ¬ G j) w w' := by
  refine ((h.swap.map (X' := fun P w => IsR w r m ∧ P r) (fun P hx => hx.disk)).call (φ := fun (_ : Unit) e => e = .returned (.tuple #[])) (X' := fun _ => RX r (m.crash (xs 0) (xs 1) (xs 2) (xs 3)) none rb) (liveR r m) (fun _ => liveRX _ _ _ _) lX hG fun P hp hn => ?_).mono ?_
  · exact (crashR_any r m xs w hp.1 ok hx).mono fun e w' ⟨a, b, c⟩ => ⟨(), a, ⟨b, hp.2⟩, c.mono fun j _ e => e ▸ hp.2⟩
  · rintro e w' ⟨_, he, ha, hk⟩
    exact ⟨he, ha.swap, hk⟩
theorem st_same (I : JI) (h : Apart G (PX I d m oj jb) (RX r m oj rb) w) (hl : ∀ j, oj = some j → j.last < 9223372036854000000 ∧ j.recs.length < 33000000) :
    Calls Try.prog 17 #[jp oj jb, jp oj rb, .pointer (some ⟨d, 0, none⟩)] w fun e w' => e = .returned (.bool true) ∧ Apart G (PX I d m oj jb) (RX r m oj rb) w' ∧ Below w.heap.size w w' := by
  cases oj with
  | none =>
    refine (same_none d w).mono ?_
    rintro e w' ⟨rfl, rfl⟩
    exact ⟨rfl, h, Below.refl _ _⟩
  | some j =>
    have h' := h
    obtain ⟨PF, RF, hX, hY, _⟩ := h'
    refine (same_some I PF RF jb d rb r m j w hX hY (hl j rfl).1 (hl j rfl).2).mono ?_
    rintro e w' ⟨rfl, hb⟩
    exact ⟨rfl, h.below (livePX I _ _ _ _) (liveRX _ _ _ _) hb, hb⟩
end
end Go.Proofs.Ytidofjjghbhaaaa
