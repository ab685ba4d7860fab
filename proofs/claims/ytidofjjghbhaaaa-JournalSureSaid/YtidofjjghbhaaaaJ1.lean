/- What is kept behind crashes: all records whose append went through, perhaps one more, and nothing else. No Go text. -/
import Derived.Test.YtidofjjghbhaaaaJ0
namespace Go.Proofs.Ytidofjjghbhaaaa
set_option linter.unusedVariables false

/-- how many bytes the frames of the first n records have, from a on -/
def flen (all : List (List UInt8)) (a n : Nat) : Nat := (frames (encs a ((all.drop a).take (n - a)))).length

/-- what a disk keeps: the snapshot, and a beginning of the frames of all records from a on -/
structure Kept (dm : DM) (all : List (List UInt8)) (T : Nat → List UInt8 → Prop) (base : Nat) (text : List UInt8) (a k : Nat) : Prop where
  snap : (dm.B 1 = [] ∧ base = 0 ∧ text = []) ∨ dm.B 1 = frame (eight base ++ text)
  sure1 : dm.S 1 = (dm.B 1).length
  short : text.length ≤ 65528
  given : T base text
  log : dm.B 0 = (frames (encs a (all.drop a))).take k
  kup : k ≤ (frames (encs a (all.drop a))).length
  ab : a ≤ base
  bl : base ≤ all.length
  recs : ∀ r ∈ all, r.length ≤ 65528
  few : all.length < 4611686018427387903
/-- the first n records are sure -/
structure Safe (dm : DM) (all : List (List UInt8)) (base a n : Nat) : Prop where
  bn : base ≤ n
  na : n ≤ all.length
  sure : flen all a n ≤ dm.S 0
/-- nothing is on its way -/
structure Steady (dm : DM) (j : JM) (all : List (List UInt8)) (T : Nat → List UInt8 → Prop) (a : Nat) : Prop where
  kept : Kept dm all T j.base j.text a (frames (encs a (all.drop a))).length
  sure : dm.S 0 = (frames (encs a (all.drop a))).length
  recs : j.recs = all.drop j.base
  whole : j.broken = false

theorem flen_all (all : List (List UInt8)) (a : Nat) : flen all a all.length = (frames (encs a (all.drop a))).length := by
  unfold flen
  rw [List.take_of_length_le (by simp)]
theorem Steady.last {dm : DM} {j : JM} {all : List (List UInt8)} {T : Nat → List UInt8 → Prop} {a : Nat} (h : Steady dm j all T a) : j.last = all.length := by
  have := h.kept.bl
  unfold JM.last
  rw [h.recs, List.length_drop]
  omega
theorem Steady.log {dm : DM} {j : JM} {all : List (List UInt8)} {T : Nat → List UInt8 → Prop} {a : Nat} (h : Steady dm j all T a) : dm.B 0 = frames (encs a (all.drop a)) := by
  rw [h.kept.log, List.take_of_length_le (Nat.le_refl _)]
theorem Steady.safe {dm : DM} {j : JM} {all : List (List UInt8)} {T : Nat → List UInt8 → Prop} {a : Nat} (h : Steady dm j all T a) : Safe dm all j.base a all.length :=
  ⟨h.kept.bl, Nat.le_refl _, by rw [flen_all, h.sure]; exact Nat.le_refl _⟩
theorem Kept.same {dm dm' : DM} {all : List (List UInt8)} {T : Nat → List UInt8 → Prop} {base : Nat} {text : List UInt8} {a k : Nat} (h : Kept dm all T base text a k) (h0 : dm'.B 0 = dm.B 0) (h1 : dm'.B 1 = dm.B 1) (hs : dm'.S 1 = dm.S 1) : Kept dm' all T base text a k :=
  ⟨by rw [h1]; exact h.snap, by rw [hs, h1]; exact h.sure1, h.short, h.given, by rw [h0]; exact h.log, h.kup, h.ab, h.bl, h.recs, h.few⟩
theorem Kept.given' {dm : DM} {all : List (List UInt8)} {T T' : Nat → List UInt8 → Prop} {base : Nat} {text : List UInt8} {a k : Nat} (h : Kept dm all T base text a k) (hT : ∀ n t, T n t → T' n t) : Kept dm all T' base text a k :=
  ⟨h.snap, h.sure1, h.short, hT _ _ h.given, h.log, h.kup, h.ab, h.bl, h.recs, h.few⟩

/-- the frames of one record more -/
theorem frames_more (all : List (List UInt8)) (b : List UInt8) (a : Nat) (ha : a ≤ all.length) :
    frames (encs a ((all ++ [b]).drop a)) = frames (encs a (all.drop a)) ++ frame (eight (all.length + 1) ++ b) := by
  rw [List.drop_append_of_le_length ha, encs_app, frames_app, List.length_drop, show a + (all.length - a) = all.length by omega]
  simp [encs, frames]
theorem flen_more (all : List (List UInt8)) (b : List UInt8) (a : Nat) (ha : a ≤ all.length) : flen (all ++ [b]) a all.length = (frames (encs a (all.drop a))).length := by
  unfold flen
  rw [List.drop_append_of_le_length ha, List.take_append_of_le_length (by simp), List.take_of_length_le (by simp)]

/-- an append: it goes through, or what was sure is -/
theorem appJ_keeps {dm : DM} {j : JM} {all : List (List UInt8)} {T : Nat → List UInt8 → Prop} {a : Nat} (h : Steady dm j all T a) (b : List UInt8) (hf : all.length < 4611686018427387902) :
    ((appJ dm j b).1 = 0 ∧ Steady (appJ dm j b).2.1 (appJ dm j b).2.2 (all ++ [b]) T a) ∨
    ((appJ dm j b).1 ≠ 0 ∧ ∃ all', (all' = all ∨ all' = all ++ [b]) ∧ ∃ base text k, Kept (appJ dm j b).2.1 all' T base text a k ∧ Safe (appJ dm j b).2.1 all' base a all.length) := by
  have hal : a ≤ all.length := Nat.le_trans h.kept.ab h.kept.bl
  unfold appJ
  by_cases hb : 65528 < b.length
  · rw [if_pos hb]
    exact .inr ⟨by simp, all, .inl rfl, _, _, _, h.kept, h.safe⟩
  rw [if_neg hb, if_neg (by rw [h.whole]; simp), h.last]
  -- the disk's append
  generalize hfr : frame (eight (all.length + 1) ++ b) = fr
  have h0 : isFile 0 = true := rfl
  have hbu : ∀ m : DM, m.burnt.B = m.B := DM.burnt_B
  have hbs : ∀ m : DM, m.burnt.S = m.S := DM.burnt_S
  unfold DM.app
  rw [h0, if_pos rfl]
  by_cases hp : dm.pow = true
  · rw [if_pos hp]
    by_cases hr : dm.room - dm.tot < fr.length
    · rw [if_pos hr]
      simp only [if_true]
      exact .inr ⟨by simp, all, .inl rfl, _, _, _, h.kept.same (by rw [hbu]) (by rw [hbu]) (by rw [hbs]), ⟨h.safe.bn, h.safe.na, by rw [hbs]; exact h.safe.sure⟩⟩
    · rw [if_neg hr]
      simp only [show ¬ (0 : Int) = 4 by omega, if_false, if_true]
      -- the record is laid
      have hB0 : ∀ (m : DM), m.B 0 = dm.B 0 → ∀ S, (m.put (upd dm.B (0 : Int).toNat (dm.B (0 : Int).toNat ++ fr)) S).B 0 = frames (encs a ((all ++ [b]).drop a)) := by
        intro m hm S
        show upd dm.B 0 (dm.B 0 ++ fr) 0 = _
        rw [upd_same, frames_more all b a hal, hfr, h.log]
      have hB1 : ∀ (m : DM) S, (m.put (upd dm.B (0 : Int).toNat (dm.B (0 : Int).toNat ++ fr)) S).B 1 = dm.B 1 := by
        intro m S
        show upd dm.B 0 (dm.B 0 ++ fr) 1 = _
        rw [upd_other _ _ (by omega)]
      have hkept : ∀ (m : DM), m.B 0 = frames (encs a ((all ++ [b]).drop a)) → m.B 1 = dm.B 1 → m.S 1 = dm.S 1 → Kept m (all ++ [b]) T j.base j.text a (frames (encs a ((all ++ [b]).drop a))).length := by
        intro m h0 h1 hs
        refine ⟨by rw [h1]; exact h.kept.snap, by rw [hs, h1]; exact h.kept.sure1, h.kept.short, h.kept.given, by rw [h0, List.take_of_length_le (Nat.le_refl _)], Nat.le_refl _, h.kept.ab, by rw [List.length_append]; have := h.kept.bl; omega, fun r hr => ?_, by rw [List.length_append]; simp; omega⟩
        rcases List.mem_append.1 hr with hr | hr
        · exact h.kept.recs r hr
        · obtain rfl : r = b := by simpa using hr
          omega
      unfold DM.syn
      rw [h0, if_pos rfl]
      generalize hm1 : dm.burnt.put (upd dm.B (0 : Int).toNat (dm.B (0 : Int).toNat ++ fr)) dm.S = m1
      have e0 : m1.B 0 = frames (encs a ((all ++ [b]).drop a)) := by rw [← hm1]; exact hB0 dm.burnt (by rw [hbu]) _
      have e1 : m1.B 1 = dm.B 1 := by rw [← hm1]; exact hB1 _ _
      have eS : m1.S = dm.S := by rw [← hm1]; rfl
      by_cases hp1 : m1.pow = true
      · rw [if_pos hp1]
        simp only [if_true]
        refine .inl ⟨trivial, ⟨hkept _ ?_ ?_ ?_, ?_, ?_, h.whole⟩⟩
        · show m1.B 0 = _; exact e0
        · show m1.B 1 = _; exact e1
        · show upd m1.S 0 (m1.B 0).length 1 = _
          rw [upd_other _ _ (by omega), eS]
        · show upd m1.S 0 (m1.B 0).length 0 = _
          rw [upd_same, e0]
        · show j.recs ++ [b] = (all ++ [b]).drop j.base
          rw [h.recs, List.drop_append_of_le_length h.kept.bl]
      · rw [if_neg hp1]
        simp only [show ¬ (9 : Int) = 0 by omega, if_false]
        refine .inr ⟨by simp, all ++ [b], .inr rfl, j.base, j.text, _, hkept _ ?_ ?_ ?_, ⟨h.kept.bl, by simp, ?_⟩⟩
        · rw [hbu]; exact e0
        · rw [hbu]; exact e1
        · rw [hbs, eS]
        · rw [flen_more all b a hal, hbs, eS, h.sure]; exact Nat.le_refl _
  · rw [if_neg hp]
    simp only [show ¬ (9 : Int) = 4 by omega, show ¬ (9 : Int) = 0 by omega, if_false]
    exact .inr ⟨by simp, all, .inl rfl, _, _, _, h.kept.same (by rw [hbu]) (by rw [hbu]) (by rw [hbs]), ⟨h.safe.bn, h.safe.na, by rw [hbs]; exact h.safe.sure⟩⟩

/-- calls leave other files alone -/
structure SameAt (m m' : DM) (i : Nat) : Prop where
  b : m'.B i = m.B i
  s : m'.S i = m.S i
theorem SameAt.refl (m : DM) (i : Nat) : SameAt m m i := ⟨rfl, rfl⟩
theorem SameAt.trans {a b c : DM} {i : Nat} (h : SameAt a b i) (k : SameAt b c i) : SameAt a c i := ⟨k.b.trans h.b, k.s.trans h.s⟩
theorem burnt_at (m : DM) (i : Nat) : SameAt m m.burnt i := ⟨by rw [m.burnt_B], by rw [m.burnt_S]⟩
theorem app_at (m : DM) (f i : Nat) (l : List UInt8) (h : i ≠ f) : SameAt m (m.app (f : Int) l).2 i := by
  unfold DM.app
  split
  · split
    · split
      · exact burnt_at m i
      · exact ⟨upd_other _ _ h, by show m.S i = _; rfl⟩
    · exact burnt_at m i
  · exact SameAt.refl m i
theorem syn_at (m : DM) (f i : Nat) (h : i ≠ f) : SameAt m (m.syn (f : Int)).2 i := by
  unfold DM.syn
  split
  · split
    · exact ⟨rfl, upd_other _ _ h⟩
    · exact burnt_at m i
  · exact SameAt.refl m i
theorem cut_at (m : DM) (f i : Nat) (n : Int) (h : i ≠ f) : SameAt m (m.cut (f : Int) n).2 i := by
  unfold DM.cut
  split
  · split
    · exact ⟨upd_other _ _ h, upd_other _ _ h⟩
    · exact burnt_at m i
  · exact SameAt.refl m i
theorem mov_at (m : DM) (f t i : Nat) (h : i ≠ f) (h' : i ≠ t) : SameAt m (m.mov (f : Int) (t : Int)).2 i := by
  unfold DM.mov
  split
  · split
    · exact ⟨(upd_other _ _ h').trans (upd_other _ _ h), (upd_other _ _ h').trans (upd_other _ _ h)⟩
    · exact burnt_at m i
  · exact SameAt.refl m i
theorem cutJ_at (m : DM) (f n i : Nat) (h : i ≠ f) : SameAt m (cutJ m f n).2 i := by
  unfold cutJ
  split
  · exact SameAt.refl m i
  · exact cut_at m f i n h
/-- what a call with an error leaves -/
theorem app_bad (m : DM) (f i : Nat) (l : List UInt8) (h : (m.app (f : Int) l).1 ≠ 0) : SameAt m (m.app (f : Int) l).2 i := by
  unfold DM.app at h ⊢
  split
  · split
    · split
      · exact burnt_at m i
      · rename_i h1 h2 h3
        rw [if_pos h1, if_pos h2, if_neg h3] at h
        exact absurd rfl h
    · exact burnt_at m i
  · exact SameAt.refl m i
theorem syn_bad (m : DM) (f i : Nat) (h : (m.syn (f : Int)).1 ≠ 0) : SameAt m (m.syn (f : Int)).2 i := by
  unfold DM.syn at h ⊢
  split
  · split
    · rename_i h1 h2
      rw [if_pos h1, if_pos h2] at h
      exact absurd rfl h
    · exact burnt_at m i
  · exact SameAt.refl m i
theorem cut_bad (m : DM) (f i : Nat) (n : Int) (h : (m.cut (f : Int) n).1 ≠ 0) : SameAt m (m.cut (f : Int) n).2 i := by
  unfold DM.cut at h ⊢
  split
  · split
    · rename_i h1 h2
      rw [if_pos h1, if_pos h2] at h
      exact absurd rfl h
    · exact burnt_at m i
  · exact SameAt.refl m i
theorem mov_bad (m : DM) (f t i : Nat) (h : (m.mov (f : Int) (t : Int)).1 ≠ 0) : SameAt m (m.mov (f : Int) (t : Int)).2 i := by
  unfold DM.mov at h ⊢
  split
  · split
    · rename_i h1 h2
      rw [if_pos h1, if_pos h2] at h
      exact absurd rfl h
    · exact burnt_at m i
  · exact SameAt.refl m i
theorem cutJ_bad (m : DM) (f n i : Nat) (h : (cutJ m f n).1 ≠ 0) : SameAt m (cutJ m f n).2 i := by
  unfold cutJ at h ⊢
  split
  · exact SameAt.refl m i
  · rename_i h1
    rw [if_neg h1] at h
    exact cut_bad m f i n h
/-- what a call without an error does -/
theorem app_good (m : DM) (f : Nat) (l : List UInt8) (h : (m.app (f : Int) l).1 = 0) : (m.app (f : Int) l).2.B f = m.B f ++ l ∧ (m.app (f : Int) l).2.S f = m.S f := by
  unfold DM.app at h ⊢
  split at h
  · rename_i h1
    rw [if_pos h1]
    split at h
    · rename_i h2
      rw [if_pos h2]
      split at h
      · simp at h
      · rename_i h3
        rw [if_neg h3]
        exact ⟨upd_same _ _ _, rfl⟩
    · simp at h
  · simp at h
theorem syn_good (m : DM) (f : Nat) (h : (m.syn (f : Int)).1 = 0) : (m.syn (f : Int)).2.B f = m.B f ∧ (m.syn (f : Int)).2.S f = (m.B f).length := by
  unfold DM.syn at h ⊢
  split at h
  · rename_i h1
    rw [if_pos h1]
    split at h
    · rename_i h2
      rw [if_pos h2]
      exact ⟨rfl, upd_same _ _ _⟩
    · simp at h
  · simp at h
theorem cut_good (m : DM) (f n : Nat) (h : (m.cut (f : Int) (n : Int)).1 = 0) : (m.cut (f : Int) (n : Int)).2.B f = (m.B f).take n ∧ (m.cut (f : Int) (n : Int)).2.S f = min (m.S f) n := by
  unfold DM.cut at h ⊢
  split at h
  · rename_i h1
    rw [if_pos h1]
    split at h
    · rename_i h2
      rw [if_pos h2]
      exact ⟨upd_same _ _ _, upd_same _ _ _⟩
    · simp at h
  · simp at h
theorem mov_good (m : DM) (f t : Nat) (h : (m.mov (f : Int) (t : Int)).1 = 0) : (m.mov (f : Int) (t : Int)).2.B t = m.B f ∧ (m.mov (f : Int) (t : Int)).2.S t = m.S f := by
  unfold DM.mov at h ⊢
  split at h
  · rename_i h1
    rw [if_pos h1]
    split at h
    · rename_i h2
      rw [if_pos h2]
      exact ⟨upd_same _ _ _, upd_same _ _ _⟩
    · simp at h
  · simp at h
theorem cutJ_good (m : DM) (f n : Nat) (hs : m.S f ≤ (m.B f).length) (h : (cutJ m f n).1 = 0) : (cutJ m f n).2.B f = (m.B f).take n ∧ (cutJ m f n).2.S f = min (m.S f) n := by
  unfold cutJ at h ⊢
  split
  · rename_i h1
    exact ⟨by rw [List.take_of_length_le (by omega)], by show m.S f = _; omega⟩
  · rename_i h1
    rw [if_neg h1] at h
    exact cut_good m f n h
theorem Kept.at {dm dm' : DM} {all : List (List UInt8)} {T : Nat → List UInt8 → Prop} {base : Nat} {text : List UInt8} {a k : Nat} (h : Kept dm all T base text a k) (h0 : SameAt dm dm' 0) (h1 : SameAt dm dm' 1) : Kept dm' all T base text a k := h.same h0.b h1.b h1.s
theorem Safe.at {dm dm' : DM} {all : List (List UInt8)} {base a n : Nat} (h : Safe dm all base a n) (h0 : SameAt dm dm' 0) : Safe dm' all base a n := ⟨h.bn, h.na, by rw [h0.s]; exact h.sure⟩

/-- a snapshot: it goes through, or what was sure is; it is the elder one, or the new one -/
theorem snapJ_keeps {dm : DM} {j : JM} {all : List (List UInt8)} {T : Nat → List UInt8 → Prop} {a : Nat} (h : Steady dm j all T a) (t : List UInt8) (ht : T all.length t) (hs2 : dm.S 2 ≤ (dm.B 2).length) :
    ((snapJ dm j t).1 = 0 ∧ Steady (snapJ dm j t).2.1 (snapJ dm j t).2.2 all T all.length) ∨
    ((snapJ dm j t).1 ≠ 0 ∧ ∃ base text a' k, Kept (snapJ dm j t).2.1 all T base text a' k ∧ Safe (snapJ dm j t).2.1 all base a' all.length) := by
  unfold snapJ
  by_cases hb : 65528 < t.length
  · rw [if_pos hb]
    exact .inr ⟨by simp, _, _, _, _, h.kept, h.safe⟩
  rw [if_neg hb, if_neg (by rw [h.whole]; simp), h.last]
  have c0 := cutJ_at dm 2 0 0 (by omega)
  have c1 := cutJ_at dm 2 0 1 (by omega)
  have c2 := cutJ_good dm 2 0 hs2
  generalize cutJ dm 2 0 = c at *
  simp only
  by_cases e1 : c.1 ≠ 0
  · rw [if_pos e1]
    exact .inr ⟨e1, _, _, _, _, h.kept.at c0 c1, h.safe.at c0⟩
  rw [if_neg e1]
  have g2 := c2 (by omega)
  generalize hfr : frame (eight all.length ++ t) = fr
  have a0 := app_at c.2 2 0 fr (by omega)
  have a1 := app_at c.2 2 1 fr (by omega)
  have a2 := app_good c.2 2 fr
  have ac : c.2.app 2 fr = c.2.app ((2 : Nat) : Int) fr := rfl
  rw [ac]
  generalize c.2.app ((2 : Nat) : Int) fr = A at *
  have k0 := c0.trans a0
  have k1 := c1.trans a1
  by_cases e2 : A.1 = 4
  · rw [if_pos e2]
    exact .inr ⟨by simp, _, _, _, _, h.kept.at k0 k1, h.safe.at k0⟩
  rw [if_neg e2]
  by_cases e3 : A.1 ≠ 0
  · rw [if_pos e3]
    exact .inr ⟨e3, _, _, _, _, h.kept.at k0 k1, h.safe.at k0⟩
  rw [if_neg e3]
  have g3 := a2 (by omega)
  have s0 := syn_at A.2 2 0 (by omega)
  have s1 := syn_at A.2 2 1 (by omega)
  have s2 := syn_good A.2 2
  rw [show A.2.syn 2 = A.2.syn ((2 : Nat) : Int) from rfl]
  generalize A.2.syn ((2 : Nat) : Int) = S at *
  replace k0 := k0.trans s0
  replace k1 := k1.trans s1
  by_cases e4 : S.1 ≠ 0
  · rw [if_pos e4]
    exact .inr ⟨e4, _, _, _, _, h.kept.at k0 k1, h.safe.at k0⟩
  rw [if_neg e4]
  have g4 := s2 (by omega)
  have m0 := mov_at S.2 2 1 0 (by omega) (by omega)
  have mb := fun i => mov_bad S.2 2 1 i
  have m1 := mov_good S.2 2 1
  rw [show S.2.mov 2 1 = S.2.mov ((2 : Nat) : Int) ((1 : Nat) : Int) from rfl]
  generalize S.2.mov ((2 : Nat) : Int) ((1 : Nat) : Int) = M at *
  by_cases e5 : M.1 ≠ 0
  · rw [if_pos e5]
    exact .inr ⟨e5, _, _, _, _, h.kept.at (k0.trans (mb 0 e5)) (k1.trans (mb 1 e5)), h.safe.at (k0.trans (mb 0 e5))⟩
  rw [if_neg e5]
  have g5 := m1 (by omega)
  replace k0 := k0.trans m0
  -- the snapshot is the new one
  have hb1 : M.2.B 1 = fr := by rw [g5.1, g4.1, g3.1, g2.1]; simp
  have hs1 : M.2.S 1 = fr.length := by rw [g5.2, g4.2, g3.1, g2.1]; simp
  have hkept : Kept M.2 all T all.length t a (frames (encs a (all.drop a))).length :=
    ⟨.inr (by rw [hb1, hfr]), by rw [hs1, hb1], by omega, ht, by rw [k0.b]; exact h.kept.log, Nat.le_refl _, Nat.le_trans h.kept.ab h.kept.bl, Nat.le_refl _, h.kept.recs, h.kept.few⟩
  have hsafe : Safe M.2 all all.length a all.length := ⟨Nat.le_refl _, Nat.le_refl _, by rw [k0.s, flen_all, h.sure]; exact Nat.le_refl _⟩
  have z1 := cut_at M.2 0 1 0 (by omega)
  have zb := fun i => cut_bad M.2 0 i 0
  have z0 := cut_good M.2 0 0
  rw [show M.2.cut 0 0 = M.2.cut ((0 : Nat) : Int) ((0 : Nat) : Int) from rfl]
  rw [show ((0 : Nat) : Int) = (0 : Int) from rfl] at z1 zb z0 ⊢
  generalize M.2.cut 0 0 = Z at *
  by_cases e6 : Z.1 ≠ 0
  · rw [if_pos e6]
    exact .inr ⟨e6, _, _, _, _, hkept.at (zb 0 e6) (zb 1 e6), hsafe.at (zb 0 e6)⟩
  rw [if_neg e6]
  have g6 := z0 (by omega)
  have hn : frames (encs all.length (all.drop all.length)) = [] := by simp [encs, frames]
  refine .inl ⟨rfl, ⟨⟨.inr (by rw [z1.b, hb1, hfr]), by rw [z1.s, z1.b, hs1, hb1], by show t.length ≤ _; omega, ht, ?_, by rw [hn]; simp, Nat.le_refl _, Nat.le_refl _, h.kept.recs, h.kept.few⟩, ?_, ?_, rfl⟩⟩
  · rw [hn, g6.1]; simp
  · rw [hn, g6.2]; simp
  · show [] = all.drop all.length; simp
end Go.Proofs.Ytidofjjghbhaaaa
