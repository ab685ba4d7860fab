/- Plain journals through fuses and crashes: what is left, what is told then. No Go text. -/
import Derived.Test.YtidofjjghbhaaaaLA
namespace Go.Proofs.Ytidofjjghbhaaaa
set_option linter.unusedVariables false

/-- a disk that keeps records: n of them are sure -/
structure Lv (dm : DM) (all : List (List UInt8)) (T : Nat → List UInt8 → Prop) (n : Nat) : Prop where
  ok : dm.Ok
  ex : ∃ base text a k, Kept dm all T base text a k ∧ Safe dm all base a n
theorem Steady.lv {dm : DM} {j : JM} {all : List (List UInt8)} {T : Nat → List UInt8 → Prop} {a : Nat} (h : Steady dm j all T a) (ok : dm.Ok) : Lv dm all T all.length := ⟨ok, _, _, _, _, h.kept, h.safe⟩
theorem crash_free (dm : DM) (K : Nat → Int) : Free (dm.crash (K 0) (K 1) (K 2) (K 3)) := ⟨rfl, rfl⟩
theorem Lv.crash {dm : DM} {all : List (List UInt8)} {T : Nat → List UInt8 → Prop} {n : Nat} (h : Lv dm all T n) (K : Nat → Int) : Lv (dm.crash (K 0) (K 1) (K 2) (K 3)) all T n ∧ (dm.crash (K 0) (K 1) (K 2) (K 3)).S 0 = ((dm.crash (K 0) (K 1) (K 2) (K 3)).B 0).length := by
  obtain ⟨ok, base, text, a, k, hk, hs⟩ := h
  obtain ⟨k', _, _, hk', hs', e⟩ := crash_keeps hk hs ok K
  exact ⟨⟨ok.crash _ _ _ _, base, text, a, k', hk', hs'⟩, e⟩
theorem Lv.setf {dm : DM} {all : List (List UInt8)} {T : Nat → List UInt8 → Prop} {n : Nat} (h : Lv dm all T n) (f : Int) (hf : f ≤ 9223372036854775807) : Lv (dm.setf f) all T n := by
  obtain ⟨ok, base, text, a, k, hk, hs⟩ := h
  exact ⟨ok.setf f hf, base, text, a, k, hk.same rfl rfl rfl, ⟨hs.bn, hs.na, hs.sure⟩⟩
theorem Lv.mono {dm : DM} {all : List (List UInt8)} {T T' : Nat → List UInt8 → Prop} {n : Nat} (h : Lv dm all T n) (hT : ∀ n t, T n t → T' n t) : Lv dm all T' n := by
  obtain ⟨ok, base, text, a, k, hk, hs⟩ := h
  exact ⟨ok, base, text, a, k, hk.given' hT, hs⟩
theorem cutJ_code (m : DM) (f n : Nat) (hf : f < 4) (hn : n ≤ (m.B f).length) : (cutJ m f n).1 = 0 ∨ (cutJ m f n).1 = 9 := by
  unfold cutJ
  split
  · exact .inl rfl
  · unfold DM.cut DM.cutOk
    have : (decide ((0 : Int) ≤ (n : Int)) && decide ((n : Int) ≤ ((m.B (f : Int).toNat).length : Int))) = true := by simp; omega
    rw [isFile_of f hf, this, if_pos (by rfl)]
    split
    · exact .inl rfl
    · exact .inr rfl
/-- a journal that was opened: what it tells -/
structure Opn (j : JM) (all : List (List UInt8)) (T : Nat → List UInt8 → Prop) (n : Nat) : Prop where
  lo : n ≤ j.last
  hi : j.last ≤ all.length
  bl : j.base ≤ j.last
  recs : j.recs = (all.take j.last).drop j.base
  given : T j.base j.text
theorem take_drop_swap (all : List (List UInt8)) (b m : Nat) : (all.drop b).take (m - b) = (all.take m).drop b := by
  rw [List.drop_take]
theorem Lv.open {dm : DM} {all : List (List UInt8)} {T : Nat → List UInt8 → Prop} {n : Nat} (h : Lv dm all T n) (hS : dm.S 0 = (dm.B 0).length) :
    (∃ j, openJ dm = (0, (openJ dm).2.1, some j) ∧ Opn j all T n ∧ (openJ dm).2.1.Ok ∧ ∃ a, Steady (openJ dm).2.1 j (all.take j.last) T a) ∨
    (openJ dm = (9, (openJ dm).2.1, none) ∧ Lv (openJ dm).2.1 all T n) := by
  obtain ⟨ok, base, text, a, k, hk, hs⟩ := h
  have hcode : (openJ dm).1 = 0 ∨ (openJ dm).1 = 9 := by
    obtain ⟨m, h1, h2, h3, h4⟩ := open_finds hk hs (ok.sure 0 (by omega))
    rw [h4]
    unfold openCut
    have hlk : (dm.B 0).length = k := by rw [hk.log, List.length_take]; have := hk.kup; omega
    have c1 := cutJ_code dm 0 (flen all a m) (by omega) (by omega)
    have c2 := cutJ_code (cutJ dm 0 (flen all a m)).2 2 0 (by omega) (by omega)
    split
    · split
      · exact .inl rfl
      · rcases c2 with c | c
        · exact absurd c (by assumption)
        · exact .inr c
    · rcases c1 with c | c
      · exact absurd c (by assumption)
      · exact .inr c
  obtain ⟨m, h1, h2, h3, h4, k', h5, h6, h7, h8⟩ := open_keeps hk hs ok
  have okO := (okOpenJ ok).1
  rcases h4 with ⟨a1, a2, a3⟩ | ⟨a1, a2⟩
  · left
    have hlast : (⟨text, base, (all.drop base).take (m - base), false⟩ : JM).last = m := by
      unfold JM.last
      simp only [List.length_take, List.length_drop]
      omega
    refine ⟨⟨text, base, (all.drop base).take (m - base), false⟩, ?_, ⟨?_, ?_, ?_, ?_, hk.given⟩, okO, a, ?_⟩
    · generalize openJ dm = r at *
      obtain ⟨x, y, z⟩ := r
      simp only at a1 a2
      rw [a1, a2]
    · rw [hlast]; exact h1
    · rw [hlast]; exact h2
    · rw [hlast]; exact h3
    · rw [hlast]; exact take_drop_swap all base m
    · rw [hlast]; exact a3 hS
  · right
    refine ⟨?_, okO, base, text, a, k', h6, h7⟩
    generalize openJ dm = r at *
    obtain ⟨x, y, z⟩ := r
    simp only at a1 a2 hcode
    rw [a2]
    rcases hcode with c | c
    · exact absurd c a1
    · rw [c]
theorem Lv.open_free {dm : DM} {all : List (List UInt8)} {T : Nat → List UInt8 → Prop} {n : Nat} (h : Lv dm all T n) (hS : dm.S 0 = (dm.B 0).length) (hf : Free dm) :
    ∃ j, openJ dm = (0, (openJ dm).2.1, some j) ∧ Opn j all T n ∧ (openJ dm).2.1.Ok ∧ ∃ a, Steady (openJ dm).2.1 j (all.take j.last) T a := by
  rcases h.open hS with h1 | ⟨h1, _⟩
  · exact h1
  · obtain ⟨ok, base, text, a, k, hk, hs⟩ := h
    have := Go.Proofs.Ytidofjjghbhaaaa.open_free hk hs ok hf.fuse hf.down
    rw [h1] at this
    simp at this
/-- a crash of a steady journal leaves it -/
theorem Steady.crash {dm : DM} {j : JM} {all : List (List UInt8)} {T : Nat → List UInt8 → Prop} {a : Nat} (h : Steady dm j all T a) (ok : dm.Ok) (K : Nat → Int) : Steady (dm.crash (K 0) (K 1) (K 2) (K 3)) j all T a := by
  have b0 := crashB dm K 0 (by omega)
  have s0 := crashS dm K 0 (by omega)
  have b1 := crashB dm K 1 (by omega)
  have s1 := crashS dm K 1 (by omega)
  have l0 := dm.left_le ok (k := 0) (by omega) (K 0)
  have g0 := dm.left_ge 0 (K 0)
  have l1 := dm.left_le ok (k := 1) (by omega) (K 1)
  have g1 := dm.left_ge 1 (K 1)
  have hlog : dm.S 0 = (dm.B 0).length := by rw [h.sure, h.log]
  have e1 : dm.left 1 (K 1) = (dm.B 1).length := by have := h.kept.sure1; omega
  have e0 : dm.left 0 (K 0) = (dm.B 0).length := by omega
  rw [e1, List.take_of_length_le (Nat.le_refl _)] at b1
  rw [e0, List.take_of_length_le (Nat.le_refl _)] at b0
  rw [e1] at s1
  rw [e0] at s0
  have := h.kept.sure1
  exact ⟨h.kept.same b0 b1 (by rw [s1]; omega), by rw [s0, ← hlog]; exact h.sure, h.recs, h.whole⟩
/-- records that were told ahead of a crash are told behind it -/
theorem twice {dm : DM} {j : JM} {all : List (List UInt8)} {T : Nat → List UInt8 → Prop} (hs : ∃ a, Steady dm j all T a) (ok : dm.Ok) (K : Nat → Int) :
    openJ (dm.crash (K 0) (K 1) (K 2) (K 3)) = (0, (openJ (dm.crash (K 0) (K 1) (K 2) (K 3))).2.1, some j) := by
  obtain ⟨a, h⟩ := hs
  have hc := h.crash ok K
  obtain ⟨h1, h2, _, _⟩ := open_same hc (ok.crash _ _ _ _) (crash_free dm K)
  generalize openJ (dm.crash (K 0) (K 1) (K 2) (K 3)) = r at *
  obtain ⟨x, y, z⟩ := r
  simp only at h1 h2
  rw [h1, h2]
theorem Opn.cut {j : JM} {all all' : List (List UInt8)} {T : Nat → List UInt8 → Prop} {n : Nat} (h : Opn j all T n) (hp : all <+: all') : Opn j all' T n := by
  obtain ⟨r, rfl⟩ := hp
  have hh := h.hi
  exact ⟨h.lo, by rw [List.length_append]; omega, h.bl, by rw [List.take_append_of_le_length h.hi]; exact h.recs, h.given⟩
/-- an operation of the laws that append and take snapshots: it goes through, or the end is near -/
theorem app_lv {dm : DM} {j : JM} {all : List (List UInt8)} {T : Nat → List UInt8 → Prop} (h : ∃ a, Steady dm j all T a) (ok : dm.Ok) (b : List UInt8) (hf : all.length < 4611686018427387902) :
    ((appJ dm j b).1 = 0 ∧ ∃ a, Steady (appJ dm j b).2.1 (appJ dm j b).2.2 (all ++ [b]) T a) ∨
    ((appJ dm j b).1 ≠ 0 ∧ ∃ all', all' <+: all ++ [b] ∧ Lv (appJ dm j b).2.1 all' T all.length) := by
  obtain ⟨a, h⟩ := h
  have okA := (okAppJ ok j b).1
  rcases appJ_keeps h b hf with ⟨h1, h2⟩ | ⟨h1, all', h2, base, text, k, h3, h4⟩
  · exact .inl ⟨h1, a, h2⟩
  · refine .inr ⟨h1, all', ?_, okA, base, text, a, k, h3, h4⟩
    rcases h2 with rfl | rfl
    · exact ⟨[b], rfl⟩
    · exact ⟨[], by simp⟩
theorem snap_lv {dm : DM} {j : JM} {all : List (List UInt8)} {T : Nat → List UInt8 → Prop} (h : ∃ a, Steady dm j all T a) (ok : dm.Ok) (t : List UInt8) (ht : T all.length t) :
    ((snapJ dm j t).1 = 0 ∧ ∃ a, Steady (snapJ dm j t).2.1 (snapJ dm j t).2.2 all T a) ∨
    ((snapJ dm j t).1 ≠ 0 ∧ Lv (snapJ dm j t).2.1 all T all.length) := by
  obtain ⟨a, h⟩ := h
  have okA := (okSnapJ ok j t).1
  rcases snapJ_keeps h t ht (ok.sure 2 (by omega)) with ⟨h1, h2⟩ | ⟨h1, base, text, a', k, h3, h4⟩
  · exact .inl ⟨h1, _, h2⟩
  · exact .inr ⟨h1, okA, base, text, a', k, h3, h4⟩
end Go.Proofs.Ytidofjjghbhaaaa
