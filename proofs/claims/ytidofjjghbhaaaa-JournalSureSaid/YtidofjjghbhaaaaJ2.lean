/- What is told behind a crash: all records whose append went through, perhaps one more, and nothing else. No Go text. -/
import Derived.Test.YtidofjjghbhaaaaJ1
namespace Go.Proofs.Ytidofjjghbhaaaa
set_option linter.unusedVariables false

theorem crashB (m : DM) (K : Nat → Int) (k : Nat) (hk : k < 4) : (m.crash (K 0) (K 1) (K 2) (K 3)).B k = (m.B k).take (m.left k (K k)) := by
  obtain rfl | rfl | rfl | rfl : k = 0 ∨ k = 1 ∨ k = 2 ∨ k = 3 := by omega
  all_goals simp [DM.crash, DM.lose, DM.put, upd, DM.left]
theorem crashS (m : DM) (K : Nat → Int) (k : Nat) (hk : k < 4) : (m.crash (K 0) (K 1) (K 2) (K 3)).S k = m.left k (K k) := by
  obtain rfl | rfl | rfl | rfl : k = 0 ∨ k = 1 ∨ k = 2 ∨ k = 3 := by omega
  all_goals simp [DM.crash, DM.lose, DM.put, upd, DM.left]

/-- a crash keeps what is sure, and all that is there is sure -/
theorem crash_keeps {dm : DM} {all : List (List UInt8)} {T : Nat → List UInt8 → Prop} {base : Nat} {text : List UInt8} {a k n : Nat} (h : Kept dm all T base text a k) (hs : Safe dm all base a n) (ok : dm.Ok) (K : Nat → Int) :
    ∃ k', k' ≤ k ∧ (k = k' ∨ dm.S 0 < (dm.B 0).length) ∧ Kept (dm.crash (K 0) (K 1) (K 2) (K 3)) all T base text a k' ∧ Safe (dm.crash (K 0) (K 1) (K 2) (K 3)) all base a n ∧
      (dm.crash (K 0) (K 1) (K 2) (K 3)).S 0 = ((dm.crash (K 0) (K 1) (K 2) (K 3)).B 0).length := by
  have b0 := crashB dm K 0 (by omega)
  have s0 := crashS dm K 0 (by omega)
  have b1 := crashB dm K 1 (by omega)
  have s1 := crashS dm K 1 (by omega)
  have l0 := dm.left_le ok (k := 0) (by omega) (K 0)
  have g0 := dm.left_ge 0 (K 0)
  have l1 := dm.left_le ok (k := 1) (by omega) (K 1)
  have g1 := dm.left_ge 1 (K 1)
  have e1 : dm.left 1 (K 1) = (dm.B 1).length := by have := h.sure1; omega
  rw [e1, List.take_of_length_le (Nat.le_refl _)] at b1
  rw [e1] at s1
  have hl : (dm.B 0).length = k := by rw [h.log, List.length_take]; have := h.kup; omega
  generalize dm.crash (K 0) (K 1) (K 2) (K 3) = d at *
  refine ⟨dm.left 0 (K 0), by omega, by omega, ⟨by rw [b1]; exact h.snap, by rw [s1, b1], h.short, h.given, ?_, by have := h.kup; omega, h.ab, h.bl, h.recs, h.few⟩, ⟨hs.bn, hs.na, by rw [s0]; have := hs.sure; omega⟩, ?_⟩
  · rw [b0, h.log, List.take_take]
    congr 1
    omega
  · rw [s0, b0, List.length_take]
    omega

theorem flen_mono (all : List (List UInt8)) (a m : Nat) : flen all a m ≤ (frames (encs a (all.drop a))).length := by
  unfold flen
  rw [← encs_take]
  exact frames_take_le _ _

/-- what opening finds -/
theorem open_finds {dm : DM} {all : List (List UInt8)} {T : Nat → List UInt8 → Prop} {base : Nat} {text : List UInt8} {a k n : Nat} (h : Kept dm all T base text a k) (hs : Safe dm all base a n) (hSB : dm.S 0 ≤ (dm.B 0).length) :
    ∃ m, n ≤ m ∧ m ≤ all.length ∧ flen all a m ≤ k ∧ openJ dm = openCut dm (flen all a m) ⟨text, base, (all.drop base).take (m - base), false⟩ := by
  have hal : a ≤ all.length := Nat.le_trans h.ab h.bl
  have hshort : ∀ b ∈ encs a (all.drop a), b.length ≤ 65536 := encs_short a _ fun r hr => h.recs r (List.mem_of_mem_drop hr)
  obtain ⟨j, c, h1, h2, h3, h4, h5⟩ := scan_prefix (encs a (all.drop a)) k hshort h.kup
  rw [encs_length, List.length_drop] at h1 h5
  rw [encs_take] at h2 h3
  have hj : (all.drop a).take j = (all.drop a).take (a + j - a) := by rw [show a + j - a = j by omega]
  have hlk : (dm.B 0).length = k := by rw [h.log, List.length_take]; have := h.kup; omega
  have hn : n ≤ a + j := by
    have hsu := hs.sure
    unfold flen at hsu
    rw [← encs_take] at hsu
    have := h5 (n - a) (by have := hs.na; omega) (by omega)
    omega
  refine ⟨a + j, hn, by omega, by unfold flen; rw [← hj]; exact h3, ?_⟩
  have hsnap : snapOf (dm.B 1) = some (base, text) := by
    unfold snapOf
    rcases h.snap with ⟨e1, e2, e3⟩ | e
    · rw [e1, if_pos rfl, e2, e3]
    · have hne : dm.B 1 ≠ [] := by rw [e]; intro hc; have := congrArg List.length hc; rw [frame_length] at this; simp at this
      rw [if_neg hne, e]
      have hsc := scan_laid [eight base ++ text] (fun b hb => by
        obtain rfl : b = eight base ++ text := by simpa using hb
        rw [List.length_append, eight_length]; have := h.short; omega)
      have hf : frames [eight base ++ text] = frame (eight base ++ text) := by simp [frames]
      rw [hf] at hsc
      rw [hsc]
      simp only
      rw [num8_eight base text (by have := h.bl; have := h.few; omega), drop_eight]
      rfl
  unfold openJ
  rw [hsnap, h.log, h2]
  simp only
  rw [if_neg h4, walk_encs base _ a none (by rw [List.length_take, List.length_drop]; have := h.few; omega) h.ab]
  simp only
  have hr : ((all.drop a).take j).drop (base - a) = (all.drop base).take (a + j - base) := by
    rw [List.drop_take, List.drop_drop, show a + (base - a) = base by have := h.ab; omega, show j - (base - a) = a + j - base by have := h.ab; omega]
  rw [hr]
  unfold flen
  rw [← hj]

/-- behind opening -/
theorem open_keeps {dm : DM} {all : List (List UInt8)} {T : Nat → List UInt8 → Prop} {base : Nat} {text : List UInt8} {a k n : Nat} (h : Kept dm all T base text a k) (hs : Safe dm all base a n) (ok : dm.Ok) :
    ∃ m, n ≤ m ∧ m ≤ all.length ∧ base ≤ m ∧
      (((openJ dm).1 = 0 ∧ (openJ dm).2.2 = some ⟨text, base, (all.drop base).take (m - base), false⟩ ∧ (dm.S 0 = (dm.B 0).length → Steady (openJ dm).2.1 ⟨text, base, (all.drop base).take (m - base), false⟩ (all.take m) T a)) ∨
       ((openJ dm).1 ≠ 0 ∧ (openJ dm).2.2 = none)) ∧ ∃ k', k' ≤ k ∧ Kept (openJ dm).2.1 all T base text a k' ∧ Safe (openJ dm).2.1 all base a n ∧ (dm.S 0 = (dm.B 0).length → (openJ dm).2.1.S 0 = ((openJ dm).2.1.B 0).length) := by
  have hS0 := ok.sure 0 (by omega)
  have hS2 := ok.sure 2 (by omega)
  obtain ⟨m, h1, h2, h3, h4⟩ := open_finds h hs hS0
  have hbm : base ≤ m := Nat.le_trans hs.bn h1
  have hlk : (dm.B 0).length = k := by rw [h.log, List.length_take]; have := h.kup; omega
  refine ⟨m, h1, h2, hbm, ?_⟩
  rw [h4]
  generalize hj : (⟨text, base, (all.drop base).take (m - base), false⟩ : JM) = j
  unfold openCut
  have c1 := cutJ_at dm 0 (flen all a m) 1 (by omega)
  have c2 := cutJ_at dm 0 (flen all a m) 2 (by omega)
  have cg := cutJ_good dm 0 (flen all a m) hS0
  have cb := cutJ_bad dm 0 (flen all a m) 0
  generalize cutJ dm 0 (flen all a m) = C at *
  by_cases e1 : C.1 = 0
  · rw [if_pos e1]
    obtain ⟨gB, gS⟩ := cg e1
    have z0 := cutJ_at C.2 2 0 0 (by omega)
    have z1 := cutJ_at C.2 2 0 1 (by omega)
    generalize cutJ C.2 2 0 = Z at *
    -- the log is cut to its frames
    have hl0 : Z.2.B 0 = (frames (encs a (all.drop a))).take (flen all a m) := by
      rw [z0.b, gB, h.log, List.take_take, Nat.min_eq_left h3]
    have hs0 : Z.2.S 0 = min (dm.S 0) (flen all a m) := by rw [z0.s, gS]
    have k1 := c1.trans z1
    have hK : Kept Z.2 all T base text a (flen all a m) :=
      ⟨by rw [k1.b]; exact h.snap, by rw [k1.s, k1.b]; exact h.sure1, h.short, h.given, hl0, flen_mono all a m, h.ab, h.bl, h.recs, h.few⟩
    have hnm : flen all a n ≤ flen all a m := by
      unfold flen
      rw [← encs_take, ← encs_take]
      have e : (encs a (all.drop a)).take (n - a) = ((encs a (all.drop a)).take (m - a)).take (n - a) := by rw [List.take_take, Nat.min_eq_left (by omega)]
      rw [e]
      exact frames_take_le _ _
    have hSafe : Safe Z.2 all base a n := ⟨hs.bn, hs.na, by rw [hs0]; have := hs.sure; omega⟩
    have hsl : dm.S 0 = (dm.B 0).length → Z.2.S 0 = (Z.2.B 0).length := by
      intro e
      rw [hs0, hl0, List.length_take]
      have := flen_mono all a m
      have := h.kup
      omega
    have hfm : frames (encs a ((all.take m).drop a)) = (frames (encs a (all.drop a))).take (flen all a m) := by
      unfold flen
      rw [← encs_take, framesJ_take, encs_take]
      rw [List.drop_take]
    have hfl : (frames (encs a ((all.take m).drop a))).length = flen all a m := by
      rw [hfm, List.length_take]; have := flen_mono all a m; omega
    have hSt : dm.S 0 = (dm.B 0).length → Steady Z.2 j (all.take m) T a := by
      intro e
      subst hj
      have hlen : (all.take m).length = m := by rw [List.length_take]; omega
      refine ⟨⟨hK.snap, hK.sure1, h.short, h.given, ?_, Nat.le_refl _, h.ab, by rw [hlen]; exact hbm, fun r hr => h.recs r (List.mem_of_mem_take hr), by rw [hlen]; have := h.few; omega⟩, ?_, ?_, rfl⟩
      · rw [List.take_of_length_le (Nat.le_refl _), hfm]; exact hl0
      · rw [hfl, hsl e, hl0, List.length_take]; have := flen_mono all a m; omega
      · show (all.drop base).take (m - base) = (all.take m).drop base
        rw [List.drop_take]
    by_cases e2 : Z.1 = 0
    · rw [if_pos e2]
      exact ⟨.inl ⟨rfl, rfl, hSt⟩, _, h3, hK, hSafe, hsl⟩
    · rw [if_neg e2]
      exact ⟨.inr ⟨e2, rfl⟩, _, h3, hK, hSafe, hsl⟩
  · rw [if_neg e1]
    have z0 := cb e1
    exact ⟨.inr ⟨e1, rfl⟩, _, Nat.le_refl _, h.at z0 c1, hs.at z0, fun e => by rw [z0.s, z0.b]; exact e⟩
/-- with power, and without a fuse, it is opened -/
theorem cutJ_free (m : DM) (f n : Nat) (hf : f < 4) (hn : n ≤ (m.B f).length) (hfu : m.fuse = -1) (hd : m.down = false) : (cutJ m f n).1 = 0 ∧ (cutJ m f n).2.fuse = -1 ∧ (cutJ m f n).2.down = false := by
  have hp : m.pow = true := by unfold DM.pow; rw [hfu, hd]; rfl
  have hb : m.burnt.fuse = -1 ∧ m.burnt.down = false := by unfold DM.burnt; rw [if_pos hp, hfu]; exact ⟨rfl, hd⟩
  unfold cutJ
  split
  · exact ⟨rfl, hfu, hd⟩
  · unfold DM.cut DM.cutOk
    rw [isFile_of f hf, hp]
    have : (decide ((0 : Int) ≤ (n : Int)) && decide ((n : Int) ≤ ((m.B (f : Int).toNat).length : Int))) = true := by simp; omega
    rw [this]
    exact ⟨rfl, hb.1, hb.2⟩
theorem open_free {dm : DM} {all : List (List UInt8)} {T : Nat → List UInt8 → Prop} {base : Nat} {text : List UInt8} {a k n : Nat} (h : Kept dm all T base text a k) (hs : Safe dm all base a n) (ok : dm.Ok) (hfu : dm.fuse = -1) (hd : dm.down = false) :
    (openJ dm).1 = 0 := by
  obtain ⟨m, h1, h2, h3, h4⟩ := open_finds h hs (ok.sure 0 (by omega))
  have hlk : (dm.B 0).length = k := by rw [h.log, List.length_take]; have := h.kup; omega
  rw [h4]
  unfold openCut
  obtain ⟨c1, c2, c3⟩ := cutJ_free dm 0 (flen all a m) (by omega) (by omega) hfu hd
  obtain ⟨d1, _, _⟩ := cutJ_free (cutJ dm 0 (flen all a m)).2 2 0 (by omega) (by omega) c2 c3
  rw [if_pos c1, if_pos d1]
end Go.Proofs.Ytidofjjghbhaaaa
