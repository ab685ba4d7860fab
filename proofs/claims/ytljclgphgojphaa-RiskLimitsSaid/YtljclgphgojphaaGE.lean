/- The contracts of a guard's Out, endangers, postError, Book. -/
import Derived.Test.YtljclgphgojphaaGD
namespace Go.Proofs.Ytljclgphgojphaa
open Go.RowKit
set_option linter.unusedVariables false

section
variable {G S : Nat → Prop} {gb lb b gL cL gF cF : Nat}
theorem out_like {g : GM} (hg : g.l.Good) {m c a : Int} : g.l.like (g.l.out m c a).2 ∧ ((g.l.out m c a).1 ≠ 0 → (g.l.out m c a).2 = g.l) := (out_good hg m c a).2
theorem has_two {x : WM} {l : LM} (h1 : x.nm = l.nm) (h2 : x.cs.length = l.nc) (m c : Int) : l.has m c = (x.has m && (decide (0 ≤ c) && decide (c < x.cs.length))) := by
  unfold LM.has WM.has
  rw [h1, h2]
  simp [Bool.decide_and, Bool.and_assoc]
set_option maxHeartbeats 4000000 in
set_option maxRecDepth 100000 in
theorem gout_any (g : GM) (m c a : Int) (w : World) (h : GG G S gb lb b gL cL gF cF g w) (hm : In64 m) (hc : In64 c) (ha : In64 a) :
    Calls Try.prog 13 #[.pointer (some ⟨gb, 0, none⟩), .int .i64 m, .int .i64 c, .int .i64 a] w (DoneG G S gb lb b gL cL gF cF (g.out m c a) w) := by
  have hH := ghas_any m w h
  have hC : ∀ wv, w = wv → Calls Try.prog 36 #[.pointer (some ⟨gb, 0, none⟩), .int .i64 c] wv fun e w' => e = .returned (.bool (decide (0 ≤ c) && decide (c < g.x.cs.length))) ∧ GG G S gb lb b gL cL gF cF g w' ∧ Kp (fun j => ¬ G j) w w' := fun wv e => by
    subst e
    exact (ghasC_any c w h).mono fun e w' ⟨h1, h2⟩ => ⟨h1, GS.below h h2, Kp.of_below h2⟩
  have hL := has_two h.nm h.nc m c
  generalize hg1 : g.x.has m = B1 at *
  generalize hg2 : (decide (0 ≤ c) && decide (c < g.x.cs.length)) = B2 at *
  have hone : ∀ wv, GG G S gb lb b gL cL gF cF g wv → Kp (fun j => ¬ G j) w wv → (B1 && B2) = false ∨ a < 1 → (1, g) = g.out m c a := fun wv hw _ e => by
    unfold GM.out
    rw [if_pos (fun x => by
      rw [hL] at x
      rcases e with e | e
      · rw [e] at x; exact absurd x.1 (by decide)
      · omega)]
  replace hH := Lib.hid hH
  replace hC := Lib.hid hC
  replace hone := Lib.hid hone
  replace hg1 := Lib.hid hg1
  replace hg2 := Lib.hid hg2
  cases B1 with
  | false =>
    have e1 := hone.out w h (Kp.refl _ _) (.inl rfl)
    rw [← e1]
    replace h := Lib.hid h
    replace e1 := Lib.hid e1
    go_enter Try.func13, Try.ntmps13
    go_wp2_with (first | (go_at_call 35; (with_reducible refine hH.out.mono ?_); rintro e w1 ⟨rfl, rfl⟩))
    go_ret
    exact ⟨rfl, h.out, Kp.refl _ _⟩
  | true =>
  cases B2 with
  | false =>
    have e1 := hone.out w h (Kp.refl _ _) (.inl rfl)
    rw [← e1]
    have hC0 := Lib.hid (hC.out w rfl)
    replace h := Lib.hid h
    replace e1 := Lib.hid e1
    go_enter Try.func13, Try.ntmps13
    go_wp2_with (first | (go_at_call 35; (with_reducible refine hH.out.mono ?_); rintro e w1 ⟨rfl, rfl⟩) | (go_at_call 36; (with_reducible refine hC0.out.mono ?_); rintro e w2 ⟨rfl, hG2, hK2⟩; replace hG2 := Lib.hid hG2; replace hK2 := Lib.hid hK2))
    go_ret
    exact ⟨rfl, hG2.out, hK2.out.mono fun j _ e => .inl e⟩
  | true =>
  have hC0 := Lib.hid (hC.out w rfl)
  by_cases h1 : a < 1
  · have e1 := hone.out w h (Kp.refl _ _) (.inr h1)
    rw [← e1]
    replace h := Lib.hid h
    replace e1 := Lib.hid e1
    go_enter Try.func13, Try.ntmps13
    go_wp2_with (first | (go_at_call 35; (with_reducible refine hH.out.mono ?_); rintro e w1 ⟨rfl, rfl⟩) | (go_at_call 36; (with_reducible refine hC0.out.mono ?_); rintro e w2 ⟨rfl, hG2, hK2⟩; replace hG2 := Lib.hid hG2; replace hK2 := Lib.hid hK2))
    go_ret
    exact ⟨rfl, hG2.out, hK2.out.mono fun j _ e => .inl e⟩
  have hnot : ¬ ¬ (g.l.has m c = true ∧ 1 ≤ a) := fun x => x ⟨by rw [hL]; rfl, by omega⟩
  have hFl : ∀ wv, GG G S gb lb b gL cL gF cF g wv → Calls Try.prog 14 #[.pointer (some ⟨gb, 0, none⟩), .int .i64 m] wv fun e w' => e = .returned (.bool (g.flagged m)) ∧ wv = w' := fun wv hw => hw.flagged m
  clear hL
  cases hf : g.flagged m with
  | true =>
    have e1 : g.out m c a = (10, g) := by unfold GM.out; rw [if_neg hnot, if_pos (.inl hf)]
    rw [e1]
    rw [hf] at hFl
    replace h := Lib.hid h
    replace e1 := Lib.hid e1
    replace hFl := Lib.hid hFl
    replace hf := Lib.hid hf
    go_enter Try.func13, Try.ntmps13
    go_upto_region 3 with (first | (go_at_call 35; (with_reducible refine hH.out.mono ?_); rintro e w1 ⟨rfl, rfl⟩) | (go_at_call 36; (with_reducible refine hC0.out.mono ?_); rintro e w2 ⟨rfl, hG2, hK2⟩))
    have hF2 := Lib.hid (hFl.out _ hG2)
    replace hG2 := Lib.hid hG2
    replace hK2 := Lib.hid hK2
    go_wp2_with (first | (go_at_call 14; (with_reducible refine hF2.out.mono ?_); rintro e w3 ⟨rfl, rfl⟩))
    go_ret
    exact ⟨rfl, hG2.out, hK2.out.mono fun j _ e => .inl e⟩
  | false =>
    rw [hf] at hFl
    have ha2 : In64 (-a) := by unfold In64 at *; omega
    have a0 := ha.1
    have a1 := ha.2
    have hend : ∀ (r : Int) (g' : GM) (wv v w' : World) (H : Nat → Prop), GG G S gb lb b gL cL gF cF g wv → Kp (fun j => ¬ G j) w wv → H = (fun j => G j ∨ j = wv.heap.size) → Below wv.heap.size wv v → GG H S gb lb b gL cL gF cF g' w' → Kp (fun j => ¬ H j ∨ j = gF) v w' → (r, g') = g.out m c a → DoneG G S gb lb b gL cL gF cF (g.out m c a) w (.returned (.int .i64 r)) w' := fun r g' wv v w' H hw hK1 hH hb h2 hK e => by
      rw [← e]
      obtain ⟨k1, k2⟩ := hw.back (H := H) (fun j hj => by rw [hH]; exact .inl hj) hb h2 hK (fun j hj => by rw [hH] at hj; exact hj.imp id fun e => by omega)
      exact ⟨rfl, k1, (hK1.mono fun j _ e => .inl e).trans k2⟩
    have hbox : ∀ wv, GG G S gb lb b gL cL gF cF g wv → Boxed G S gb lb b gL cL gF cF g wv (fun j => G j ∨ j = wv.heap.size) m c (-a) (wv.alloc (.cells #[.int .i64 m, .int .i64 c, .int .i64 (-a)] 39)) := fun wv hw => hw.box hm hc ha2
    have hPs : ∀ (H : Nat → Prop) (p : Option Addr) wv, GG H S gb lb b gL cL gF cF g wv → PRowG H wv p 1 [⟨m, c, -a⟩] → Calls Try.prog 20 #[.pointer (some ⟨gb, 0, none⟩), .int .i64 m, .slice p 1 1] wv fun e w' => e = .returned (.bool (decide (g.fails m [⟨m, c, -a⟩] = 0))) ∧ GG H S gb lb b gL cL gF cF g w' ∧ Kp (fun j => ¬ H j) wv w' := fun H p wv hw hr => hw.passes m p 1 1 _ hr (by omega)
    have hO : ∀ wv, Calls Try.prog 17 #[.int .i64 m, .int .i64 c, .int .i64 (-a)] wv fun e w' => e = .returned (.slice (some ⟨wv.heap.size, 0, none⟩) 1 1) ∧ w' = wv.alloc (.cells #[.int .i64 m, .int .i64 c, .int .i64 (-a)] 39) := fun wv => one_any m c (-a) wv
    by_cases hz : g.fails m [⟨m, c, -a⟩] = 0
    · rw [show decide (g.fails m [⟨m, c, -a⟩] = 0) = true from by simpa using hz] at hPs
      have e1 : g.out m c a = ((g.l.out m c a).1, g.after (g.l.out m c a).2) := by unfold GM.out; rw [if_neg hnot, if_neg (fun x => by rcases x with x | x; rw [hf] at x; cases x; exact x hz)]
      have hl := (out_like (m := m) (c := c) (a := a) h.ok.good)
      have hrw := fun (j : Nat) (hj : (j : Int) ≠ m) => out_rows (l := g.l) m c a hj
      have hLd : ∀ (H : Nat → Prop) wv, GG H S gb lb b gL cL gF cF g wv → Calls Try.prog 37 #[.pointer (some ⟨lb, 0, none⟩), .int .i64 m, .int .i64 c, .int .i64 a] wv fun e w' => e = .returned (.int .i64 (g.l.out m c a).1) ∧ GS H S gb lb b gL cL gF cF (g.l.out m c a).2 g.x g.L g.fl w' ∧ Kp (fun j => ¬ H j) wv w' := fun H wv hw => (hw.st.out m c a ha).mono fun e w' ⟨e1, e2, e3⟩ => ⟨e1, hw.led e2 e3 hl.1, e3⟩
      have hMv : ∀ (H : Nat → Prop) wv, GS H S gb lb b gL cL gF cF (g.l.out m c a).2 g.x g.L g.fl wv → Calls Try.prog 19 #[.pointer (some ⟨b, 0, none⟩), .int .i64 m] wv fun e w' => e = .returned (.tuple #[]) ∧ GG H S gb lb b gL cL gF cF (g.after (g.l.out m c a).2) w' ∧ Kp (fun j => ¬ H j) wv w' := fun H wv hw => (hw.st.moved m).mono fun e w' ⟨e1, e2, e3⟩ => ⟨e1, by
        have hx2 := hw.moved m e2 e3
        rw [show g.x.moved (g.l.out m c a).2 m = WM.new g.cs (g.l.out m c a).2 from moved_new hl.1 hrw] at hx2
        exact hx2, e3⟩
      have hsame : ∀ (H : Nat → Prop) wv, (g.l.out m c a).1 ≠ 0 → GS H S gb lb b gL cL gF cF (g.l.out m c a).2 g.x g.L g.fl wv → GG H S gb lb b gL cL gF cF (g.after (g.l.out m c a).2) wv := fun H wv e hw => by
        have e2 := hl.2 e
        rw [e2] at hw ⊢
        exact hw
      clear hrw hl
      generalize (g.l.out m c a).2 = k at *
      generalize (g.l.out m c a).1 = r at *
      replace h := Lib.hid h
      replace hFl := Lib.hid hFl
      replace hf := Lib.hid hf
      replace hend := Lib.hid hend
      replace hbox := Lib.hid hbox
      replace hPs := Lib.hid hPs
      replace hz := Lib.hid hz
      replace e1 := Lib.hid e1
      replace hLd := Lib.hid hLd
      replace hMv := Lib.hid hMv
      replace hsame := Lib.hid hsame
      replace hnot := Lib.hid hnot
      replace ha2 := Lib.hid ha2
      by_cases hr : r = 0
      · subst hr
        go_enter Try.func13, Try.ntmps13
        go_upto_region 3 with (first | (go_at_call 35; (with_reducible refine hH.out.mono ?_); rintro e w1 ⟨rfl, rfl⟩) | (go_at_call 36; (with_reducible refine hC0.out.mono ?_); rintro e w2 ⟨rfl, hG2, hK2⟩))
        have hF2 := Lib.hid (hFl.out _ hG2)
        have hB2 := hbox.out _ hG2
        have hP2 := Lib.hid (hPs.out _ _ _ hB2.gg hB2.row)
        replace hG2 := Lib.hid hG2
        replace hK2 := Lib.hid hK2
        replace hB2 := Lib.hid hB2
        go_upto_region 5 with (first | (go_at_call 14; (with_reducible refine hF2.out.mono ?_); rintro e w3 ⟨rfl, rfl⟩) | (go_at_call 17; (with_reducible refine (hO _).mono ?_); rintro e w3 ⟨rfl, rfl⟩) | (go_at_call 20; (with_reducible refine hP2.out.mono ?_); rintro e w4 ⟨rfl, hG4, hK4⟩))
        have c0 := GS.c0 hG4
        have hL4 := Lib.hid (hLd.out _ _ hG4)
        replace hG4 := Lib.hid hG4
        replace hK4 := Lib.hid hK4
        go_upto_region 8 with (first | (go_at_call 37; (with_reducible refine hL4.out.mono ?_); rintro e w5 ⟨rfl, hG5, hK5⟩))
        have c1 := GS.c1 hG5
        have hM5 := Lib.hid (hMv.out _ _ hG5)
        replace hG5 := Lib.hid hG5
        replace hK5 := Lib.hid hK5
        go_wp2_with (first | (go_at_call 19; (with_reducible refine hM5.out.mono ?_); rintro e w6 ⟨rfl, hG6, hK6⟩; replace hG6 := Lib.hid hG6; replace hK6 := Lib.hid hK6))
        go_ret
        exact hend.out _ _ _ _ _ _ hG2.out hK2.out rfl hB2.out.blw hG6.out (((hK4.out.trans hK5.out).trans hK6.out).mono fun j _ e => .inl e) e1.out.symm
      · have hrz : (r != 0) = true := by simpa using hr
        replace hr := Lib.hid hr
        go_enter Try.func13, Try.ntmps13
        go_upto_region 3 with (first | (go_at_call 35; (with_reducible refine hH.out.mono ?_); rintro e w1 ⟨rfl, rfl⟩) | (go_at_call 36; (with_reducible refine hC0.out.mono ?_); rintro e w2 ⟨rfl, hG2, hK2⟩))
        have hF2 := Lib.hid (hFl.out _ hG2)
        have hB2 := hbox.out _ hG2
        have hP2 := Lib.hid (hPs.out _ _ _ hB2.gg hB2.row)
        replace hG2 := Lib.hid hG2
        replace hK2 := Lib.hid hK2
        replace hB2 := Lib.hid hB2
        go_upto_region 5 with (first | (go_at_call 14; (with_reducible refine hF2.out.mono ?_); rintro e w3 ⟨rfl, rfl⟩) | (go_at_call 17; (with_reducible refine (hO _).mono ?_); rintro e w3 ⟨rfl, rfl⟩) | (go_at_call 20; (with_reducible refine hP2.out.mono ?_); rintro e w4 ⟨rfl, hG4, hK4⟩))
        have c0 := GS.c0 hG4
        have hL4 := Lib.hid (hLd.out _ _ hG4)
        replace hG4 := Lib.hid hG4
        replace hK4 := Lib.hid hK4
        go_wp2_with (first | (go_at_call 37; (with_reducible refine hL4.out.mono ?_); rintro e w5 ⟨rfl, hG5, hK5⟩; replace hG5 := Lib.hid hG5; replace hK5 := Lib.hid hK5))
        go_ret
        exact hend.out _ _ _ _ _ _ hG2.out hK2.out rfl hB2.out.blw (hsame.out _ _ hr.out hG5.out) ((hK4.out.trans hK5.out).mono fun j _ e => .inl e) e1.out.symm
    · rw [show decide (g.fails m [⟨m, c, -a⟩] = 0) = false from by simpa using hz] at hPs
      have e1 : g.out m c a = (10, g) := by unfold GM.out; rw [if_neg hnot, if_pos (.inr hz)]
      replace h := Lib.hid h
      replace hFl := Lib.hid hFl
      replace hf := Lib.hid hf
      replace hend := Lib.hid hend
      replace hbox := Lib.hid hbox
      replace hPs := Lib.hid hPs
      replace hz := Lib.hid hz
      replace e1 := Lib.hid e1
      replace hnot := Lib.hid hnot
      replace ha2 := Lib.hid ha2
      go_enter Try.func13, Try.ntmps13
      go_upto_region 3 with (first | (go_at_call 35; (with_reducible refine hH.out.mono ?_); rintro e w1 ⟨rfl, rfl⟩) | (go_at_call 36; (with_reducible refine hC0.out.mono ?_); rintro e w2 ⟨rfl, hG2, hK2⟩))
      have hF2 := Lib.hid (hFl.out _ hG2)
      have hB2 := hbox.out _ hG2
      have hP2 := Lib.hid (hPs.out _ _ _ hB2.gg hB2.row)
      replace hG2 := Lib.hid hG2
      replace hK2 := Lib.hid hK2
      replace hB2 := Lib.hid hB2
      go_wp2_with (first | (go_at_call 14; (with_reducible refine hF2.out.mono ?_); rintro e w3 ⟨rfl, rfl⟩) | (go_at_call 17; (with_reducible refine (hO _).mono ?_); rintro e w3 ⟨rfl, rfl⟩) | (go_at_call 20; (with_reducible refine hP2.out.mono ?_); rintro e w4 ⟨rfl, hG4, hK4⟩; replace hG4 := Lib.hid hG4; replace hK4 := Lib.hid hK4))
      go_ret
      exact hend.out _ _ _ _ _ _ hG2.out hK2.out rfl hB2.out.blw hG4.out (hK4.out.mono fun j _ e => .inl e) e1.out.symm
theorem retB (a b : Bool) (h : a = b) : Ending.returned (.bool a) = .returned (.bool b) := by rw [h]
set_option maxHeartbeats 2000000 in
theorem postError_any (g : GM) (p : Option Addr) (len cap : Nat) (ps : List Pst) (w : World) (h : GG G S gb lb b gL cL gF cF g w) (hrow : PRow w p len ps) (hlen : len ≤ 30) :
    Calls Try.prog 29 #[.pointer (some ⟨gb, 0, none⟩), .slice p len cap] w fun e w' => e = .returned (.int .i64 (g.l.post ps).1) ∧ Below w.heap.size w w' := by
  have c0 := GS.c0 h
  have hg := h.st.good
  obtain ⟨P, gB, cB, hP⟩ := h.st.pl
  have cT := ptext_any w hP hg
  have hsz : ∀ (s : ByteArray), sv g.l.text = .string s → s.size ≤ 100000 := fun s hs => by
    have h1 : s = ⟨g.l.text.toArray⟩ := by unfold sv at hs; injection hs with hs; exact hs.symm
    have h2 := text_length g.l
    have h3 := hg.ok.nm.2
    have h4 := hg.ok.nc.2
    rw [h1, ← bl_length, bl_mk, h2]
    have : 8 * g.l.nc * (1 + g.l.nm) ≤ 64 * 17 := Nat.mul_le_mul (by omega) (by omega)
    omega
  obtain ⟨s, hs⟩ : ∃ s, sv g.l.text = .string s := ⟨_, rfl⟩
  have hbl : bl s = g.l.text := by unfold sv at hs; injection hs with hs; rw [← hs, bl_mk]
  have hs2 := hsz s hs
  rw [hs] at cT
  have cR : ∀ wv, Calls Try.prog 51 #[.string s] wv fun e w' => ∃ b2, e = .returned (.tuple #[.pointer (some ⟨b2, 0, none⟩), .int .i64 0]) ∧ PL (fun j => wv.heap.size ≤ j) w' b2 g.l ∧ Below wv.heap.size wv w' := fun wv => by
    refine (pread_any s wv hs2).mono ?_
    rintro e w' ⟨h1, _, h3⟩
    obtain ⟨b2, e1, e2⟩ := h1 g.l (by rw [hbl]; exact read_text hg)
    exact ⟨b2, e1, e2, h3⟩
  have cP : ∀ (b2 : Nat) (wa wv : World), PL (fun j => wa.heap.size ≤ j) wv b2 g.l → wa.heap.size ≤ wv.heap.size → PRow wv p len ps → Calls Try.prog 30 #[.pointer (some ⟨b2, 0, none⟩), .slice p len cap] wv fun e w' => e = .returned (.int .i64 (g.l.post ps).1) ∧ Below wa.heap.size wv w' := fun b2 wa wv hL hle hr => by
    refine (post_any _ b2 g.l p len cap ps wv hL hg hr hlen (fun i hi => by show _ ≤ _; omega)).mono ?_
    rintro e w' ⟨h1, _, h3⟩
    exact ⟨h1, h3.below hle fun j hj e => by omega⟩
  generalize (g.l.post ps).1 = r at *
  clear hs hbl hs2 hsz hP
  replace cT := Lib.hid cT
  replace cR := Lib.hid cR
  replace cP := Lib.hid cP
  replace hrow := Lib.hid hrow
  replace h := Lib.hid h
  replace hg := Lib.hid hg
  go_enter Try.func29, Try.ntmps29
  go_upto_region 4 with (first | (go_at_call 52; (with_reducible refine cT.out.mono ?_); rintro e w1 ⟨rfl, hb1⟩; replace hb1 := Lib.hid hb1) | (go_at_call 51; (with_reducible refine (cR.out _).mono ?_); rintro e w2 ⟨b2, rfl, hL2, hb2⟩; replace hL2 := Lib.hid hL2; replace hb2 := Lib.hid hb2))
  have hb12 := hb1.out.trans (hb2.out.mono hb1.out.size)
  have cP2 := Lib.hid (cP.out b2 _ _ hL2.out hb2.out.size (hrow.out.kept hb12))
  replace hb12 := Lib.hid hb12
  go_wp2_with (first | (go_at_call 30; (with_reducible refine cP2.out.mono ?_); rintro e w3 ⟨rfl, hb3⟩; replace hb3 := Lib.hid hb3))
  go_ret
  exact ⟨rfl, hb12.out.trans (hb3.out.mono hb1.out.size)⟩

/-- endangers' way -/
structure EDS (G S : Nat → Prop) (gb lb b gL cL gF cF : Nat) (g : GM) (ps : List Pst) (w : World) (k : Nat) (wr : World) : Prop where
  gg : GG G S gb lb b gL cL gF cF g wr
  kp : Kp (fun j => ¬ G j) w wr
  no : ∀ j, j < k → g.bad ps j = false
theorem any_range_no {n : Nat} {f : Nat → Bool} (h : ∀ j, j < n → f j = false) : (List.range n).any f = false := by
  rw [List.any_eq_false]
  intro j hj
  rw [h j (List.mem_range.1 hj)]
  decide
theorem any_range_yes {n k : Nat} {f : Nat → Bool} (hk : k < n) (h : f k = true) : (List.range n).any f = true := List.any_eq_true.2 ⟨k, List.mem_range.2 hk, h⟩
set_option maxHeartbeats 4000000 in
set_option maxRecDepth 100000 in
theorem endangers_any (g : GM) (p : Option Addr) (len cap : Nat) (ps : List Pst) (w : World) (h : GG G S gb lb b gL cL gF cF g w) (hrow : PRowG G w p len ps) (hlen : len ≤ 30) :
    Calls Try.prog 28 #[.pointer (some ⟨gb, 0, none⟩), .slice p len cap] w fun e w' => e = .returned (.bool (g.ends ps)) ∧ GG G S gb lb b gL cL gF cF g w' ∧ Kp (fun j => ¬ G j) w w' := by
  have hM := members_any w h
  have h16 := GS.nm16 h
  have hn : g.x.nm = g.l.nm := rfl
  rw [hn] at hM h16
  have hS0 : EDS G S gb lb b gL cL gF cF g ps w 0 w := ⟨h, Kp.refl _ _, fun j hj => by omega⟩
  obtain ⟨X, hX⟩ : ∃ X, g.ends ps = X := ⟨_, rfl⟩
  rw [hX]
  replace hX := Lib.hid hX
  replace hM := Lib.hid hM
  replace hS0 := Lib.hid hS0
  replace h := Lib.hid h
  replace hrow := Lib.hid hrow
  clear hn
  go_enter Try.func28, Try.ntmps28
  go_upto_region 2 with (first | (go_at_call 31; (with_reducible refine hM.out.mono ?_); rintro e w1 ⟨rfl, rfl⟩))
  go_loopw [8] (fun i wr => ∃ k : Nat, k ≤ g.l.nm ∧ i = .int .i64 (k : Int) ∧ Hid (EDS G S gb lb b gL cL gF cF g ps w k wr)) (fun i _ => g.l.nm - (intOf i).toNat)
  case atStart => exact ⟨0, by omega, rfl, hS0⟩
  case round =>
    obtain ⟨k, hk, rfl, hS⟩ := hrel
    by_cases hkl : k < g.l.nm
    · have hkz : (k : Int) < (g.l.nm : Int) := by omega
      have hT := hS.out
      have hr1 := hrow.out.kp hT.kp
      have hP := part_any (k : Int) p len cap ps wr hr1.1 (by omega)
      rw [partI_nat] at hP
      have hF : ∀ wv, Below wr.heap.size wr wv → Calls Try.prog 14 #[.pointer (some ⟨gb, 0, none⟩), .int .i64 (k : Int)] wv fun e w' => e = .returned (.bool (g.flagged (k : Int))) ∧ wv = w' := fun wv hb => GG.flagged (GS.below hT.gg hb) (k : Int)
      have hQ : ∀ wv, Below wr.heap.size wr wv → Calls Try.prog 20 #[.pointer (some ⟨gb, 0, none⟩), .int .i64 (k : Int), .slice p len cap] wv fun e w' => e = .returned (.bool (decide (g.fails (k : Int) ps = 0))) ∧ GG G S gb lb b gL cL gF cF g w' ∧ Kp (fun j => ¬ G j) w w' := fun wv hb => (GG.passes (GS.below hT.gg hb) (k : Int) p len cap ps (hr1.kp (Kp.of_below hb)) hlen).mono fun e w' ⟨e1, e2, e3⟩ => ⟨e1, e2, (hT.kp.trans (Kp.of_below hb)).trans e3⟩
      have hbad : g.bad ps k = (partB k ps && (g.flagged (k : Int) || decide (g.fails (k : Int) ps ≠ 0))) := rfl
      have hnext : ∀ wv, GG G S gb lb b gL cL gF cF g wv → Kp (fun j => ¬ G j) w wv → g.bad ps k = false → EDS G S gb lb b gL cL gF cF g ps w (k + 1) wv := fun wv h1 h2 h3 => ⟨h1, h2, fun j hj => by
        by_cases e : j = k
        · subst e; exact h3
        · exact hT.no j (by omega)⟩
      have hyes : g.bad ps k = true → X = true := fun e => by rw [← hX.out]; exact any_range_yes hkl e
      generalize partB k ps = B1 at *
      generalize g.flagged (k : Int) = B2 at *
      generalize g.fails (k : Int) ps = V at *
      replace hF := Lib.hid hF
      replace hQ := Lib.hid hQ
      replace hT := Lib.hid hT
      replace hr1 := Lib.hid hr1
      replace hnext := Lib.hid hnext
      replace hP := Lib.hid hP
      replace hyes := Lib.hid hyes
      cases B1 with
      | false =>
        have hb0 : g.bad ps k = false := by rw [hbad]; rfl
        replace hbad := Lib.hid hbad
        replace hb0 := Lib.hid hb0
        go_upto_region 5 with (first | (go_at_call 32; (with_reducible refine hP.out.mono ?_); rintro e w2 ⟨rfl, hb2⟩))
        have hS2 := hnext.out _ (GS.below hT.out.gg hb2) (hT.out.kp.trans (Kp.of_below hb2)) hb0.out
        replace hS2 := Lib.hid hS2
        go_wp2_with fail
        go_roundw
        case rel => exact ⟨k + 1, by omega, by go_num, hS2⟩
        case measure => simp [intOf]; omega
      | true =>
        cases B2 with
        | true =>
          have hX1 : X = true := hyes.out (by rw [hbad]; rfl)
          subst hX1
          replace hbad := Lib.hid hbad
          go_upto_region 4 with (fail)
          go_wp2_with (first | (go_at_call 32; (with_reducible refine hP.out.mono ?_); rintro e w2 ⟨rfl, hb2⟩; replace hF := Lib.hid (hF.out _ hb2); replace hb2 := Lib.hid hb2) | (go_at_call 14; (with_reducible refine hF.out.mono ?_); rintro e w3 ⟨rfl, rfl⟩))
          go_ret
          exact ⟨rfl, GS.below hT.out.gg hb2.out, hT.out.kp.trans (Kp.of_below hb2.out)⟩
        | false =>
          by_cases hV : V = 0
          · have hb0 : g.bad ps k = false := by rw [hbad, hV]; rfl
            rw [show decide (V = 0) = true from by simpa using hV] at hQ
            replace hbad := Lib.hid hbad
            replace hb0 := Lib.hid hb0
            replace hV := Lib.hid hV
            go_upto_region 4 with (fail)
            go_upto_region 5 with (first | (go_at_call 32; (with_reducible refine hP.out.mono ?_); rintro e w2 ⟨rfl, hb2⟩; replace hF := Lib.hid (hF.out _ hb2); replace hQ := Lib.hid (hQ.out _ hb2); replace hb2 := Lib.hid hb2) | (go_at_call 14; (with_reducible refine hF.out.mono ?_); rintro e w3 ⟨rfl, rfl⟩) | (go_at_call 20; (with_reducible refine hQ.out.mono ?_); rintro e w4 ⟨rfl, hG4, hK4⟩))
            have hS2 := hnext.out _ hG4 hK4 hb0.out
            replace hS2 := Lib.hid hS2
            replace hG4 := Lib.hid hG4
            replace hK4 := Lib.hid hK4
            go_wp2_with fail
            go_roundw
            case rel => exact ⟨k + 1, by omega, by go_num, hS2⟩
            case measure => simp [intOf]; omega
          · have hX1 : X = true := hyes.out (by rw [hbad]; simpa using hV)
            subst hX1
            rw [show decide (V = 0) = false from by simpa using hV] at hQ
            replace hbad := Lib.hid hbad
            replace hV := Lib.hid hV
            go_upto_region 4 with (fail)
            go_wp2_with (first | (go_at_call 32; (with_reducible refine hP.out.mono ?_); rintro e w2 ⟨rfl, hb2⟩; replace hF := Lib.hid (hF.out _ hb2); replace hQ := Lib.hid (hQ.out _ hb2); replace hb2 := Lib.hid hb2) | (go_at_call 14; (with_reducible refine hF.out.mono ?_); rintro e w3 ⟨rfl, rfl⟩) | (go_at_call 20; (with_reducible refine hQ.out.mono ?_); rintro e w4 ⟨rfl, hG4, hK4⟩; replace hG4 := Lib.hid hG4; replace hK4 := Lib.hid hK4))
            go_ret
            exact ⟨rfl, hG4.out, hK4.out⟩
    · obtain rfl : k = g.l.nm := by omega
      have hkz : ¬ (g.l.nm : Int) < (g.l.nm : Int) := by omega
      have hX0 : X = false := by rw [← hX.out]; exact any_range_no hS.out.no
      subst hX0
      go_wp2_with fail
      go_ret
      exact ⟨rfl, hS.out.gg, hS.out.kp⟩

/-- Book's way behind the ledger's: k members' worths are taken -/
structure BKS (G S : Nat → Prop) (gb lb b gL cL gF cF : Nat) (g : GM) (l : LM) (w : World) (k : Nat) (wr : World) : Prop where
  gs : GS G S gb lb b gL cL gF cF l (g.x.all l k) g.L g.fl wr
  kp : Kp (fun j => ¬ G j) w wr
theorem all_skip (x : WM) (l : LM) {k : Nat} (h : l.row k = x.S k) : x.all l k = x.all l (k + 1) := by
  unfold WM.all
  congr 1
  funext a
  by_cases e : a < k
  · rw [if_pos e, if_pos (by omega)]
  · rw [if_neg e]
    by_cases e2 : a = k
    · subst e2; rw [if_pos (by omega), h]
    · rw [if_neg (by omega)]
theorem all_new {cs : List Cur} {l k : LM} (hl : l.like k) : (WM.new cs l).all k l.nm = WM.new cs k := by
  unfold WM.all WM.new
  rw [hl.1]
  congr 1
  funext a
  by_cases ha : a < l.nm
  · rw [if_pos ha]
  · rw [if_neg ha]
    show l.row a = k.row a
    rw [row_out ha, row_out (by rw [hl.1]; exact ha)]
set_option maxHeartbeats 4000000 in
set_option maxRecDepth 100000 in
theorem gbook_any (g : GM) (p : Option Addr) (len cap : Nat) (ps : List Pst) (w : World) (h : GG G S gb lb b gL cL gF cF g w) (hrow : PRowG G w p len ps) (hlen : len ≤ 30) :
    Calls Try.prog 11 #[.pointer (some ⟨gb, 0, none⟩), .slice p len cap] w (DoneG G S gb lb b gL cL gF cF (g.book ps) w) := by
  have hE := endangers_any g p len cap ps w h hrow hlen
  have hPE : ∀ wv, GG G S gb lb b gL cL gF cF g wv → Kp (fun j => ¬ G j) w wv → Calls Try.prog 29 #[.pointer (some ⟨gb, 0, none⟩), .slice p len cap] wv fun e w' => e = .returned (.int .i64 (g.l.post ps).1) ∧ Below wv.heap.size wv w' := fun wv hw hk => postError_any g p len cap ps wv hw (hrow.kp hk).1 hlen
  have h16 := GS.nm16 h
  have hnx : g.x.nm = g.l.nm := rfl
  rw [hnx] at h16
  cases hen : g.ends ps with
  | true =>
    rw [hen] at hE
    by_cases hr : (g.l.post ps).1 = 0
    · have e1 : g.book ps = (10, g) := by unfold GM.book; rw [if_pos hen, if_neg (by rw [hr]; simp)]
      rw [e1]
      rw [hr] at hPE
      replace hE := Lib.hid hE
      replace hPE := Lib.hid hPE
      replace h := Lib.hid h
      replace hrow := Lib.hid hrow
      replace hr := Lib.hid hr
      replace e1 := Lib.hid e1
      replace hen := Lib.hid hen
      clear hnx
      go_enter Try.func11, Try.ntmps11
      go_upto_region 2 with (first | (go_at_call 28; (with_reducible refine hE.out.mono ?_); rintro e w1 ⟨rfl, hG1, hK1⟩))
      have hPE1 := Lib.hid (hPE.out _ hG1 hK1)
      replace hG1 := Lib.hid hG1
      replace hK1 := Lib.hid hK1
      go_wp2_with (first | (go_at_call 29; (with_reducible refine hPE1.out.mono ?_); rintro e w2 ⟨rfl, hb2⟩; replace hb2 := Lib.hid hb2))
      go_ret
      exact ⟨rfl, GS.below hG1.out hb2.out, (hK1.out.trans (Kp.of_below hb2.out)).mono fun j _ e => .inl e⟩
    · have e1 : g.book ps = ((g.l.post ps).1, g) := by unfold GM.book; rw [if_pos hen, if_pos hr]
      rw [e1]
      generalize (g.l.post ps).1 = r at *
      have hrz : (r != 0) = true := by simpa using hr
      replace hE := Lib.hid hE
      replace hPE := Lib.hid hPE
      replace h := Lib.hid h
      replace hrow := Lib.hid hrow
      replace hr := Lib.hid hr
      replace e1 := Lib.hid e1
      replace hen := Lib.hid hen
      clear hnx
      go_enter Try.func11, Try.ntmps11
      go_upto_region 2 with (first | (go_at_call 28; (with_reducible refine hE.out.mono ?_); rintro e w1 ⟨rfl, hG1, hK1⟩))
      have hPE1 := Lib.hid (hPE.out _ hG1 hK1)
      replace hG1 := Lib.hid hG1
      replace hK1 := Lib.hid hK1
      go_wp2_with (first | (go_at_call 29; (with_reducible refine hPE1.out.mono ?_); rintro e w2 ⟨rfl, hb2⟩; replace hb2 := Lib.hid hb2))
      go_ret
      exact ⟨rfl, GS.below hG1.out hb2.out, (hK1.out.trans (Kp.of_below hb2.out)).mono fun j _ e => .inl e⟩
  | false =>
    rw [hen] at hE
    have hpg := (post_good h.ok.good ps).2
    have hprw := fun k => post_rows h.ok.good (ps := ps) (k := k)
    have e1 : g.book ps = ((g.l.post ps).1, g.after (g.l.post ps).2) := by unfold GM.book; rw [if_neg (by rw [hen]; decide)]
    rw [e1]
    have hLd : ∀ wv, GG G S gb lb b gL cL gF cF g wv → Kp (fun j => ¬ G j) w wv → Calls Try.prog 30 #[.pointer (some ⟨lb, 0, none⟩), .slice p len cap] wv fun e w' => e = .returned (.int .i64 (g.l.post ps).1) ∧ GS G S gb lb b gL cL gF cF (g.l.post ps).2 g.x g.L g.fl w' ∧ Kp (fun j => ¬ G j) wv w' := fun wv hw hk => (hw.st.post p len cap ps (hrow.kp hk).1 hlen).mono fun e w' ⟨e1, e2, e3⟩ => ⟨e1, hw.led e2 e3 hpg.1, e3⟩
    have hsame : ∀ wv, (g.l.post ps).1 ≠ 0 → GS G S gb lb b gL cL gF cF (g.l.post ps).2 g.x g.L g.fl wv → GG G S gb lb b gL cL gF cF (g.after (g.l.post ps).2) wv := fun wv e hw => by
      have e2 := hpg.2 e
      rw [e2] at hw ⊢
      exact hw
    have hlk := hpg.1
    generalize (g.l.post ps).1 = r at *
    generalize (g.l.post ps).2 = k0 at *
    clear hpg
    replace hE := Lib.hid hE
    replace hPE := Lib.hid hPE
    replace h := Lib.hid h
    replace hrow := Lib.hid hrow
    replace e1 := Lib.hid e1
    replace hen := Lib.hid hen
    replace hLd := Lib.hid hLd
    replace hsame := Lib.hid hsame
    replace hprw := Lib.hid hprw
    replace hlk := Lib.hid hlk
    replace hnx := Lib.hid hnx
    by_cases hr : r = 0
    · subst hr
      go_enter Try.func11, Try.ntmps11
      go_upto_region 6 with (first | (go_at_call 28; (with_reducible refine hE.out.mono ?_); rintro e w1 ⟨rfl, hG1, hK1⟩))
      have c0 := GS.c0 hG1
      have hL1 := Lib.hid (hLd.out _ hG1 hK1)
      replace hG1 := Lib.hid hG1
      replace hK1 := Lib.hid hK1
      go_upto_region 9 with (first | (go_at_call 30; (with_reducible refine hL1.out.mono ?_); rintro e w2 ⟨rfl, hG2, hK2⟩))
      have hM := members_any w2 hG2
      rw [hnx.out] at hM
      have hS0 : BKS G S gb lb b gL cL gF cF g k0 w 0 w2 := ⟨by rw [all_zero]; exact hG2, hK1.out.trans hK2⟩
      replace hM := Lib.hid hM
      replace hS0 := Lib.hid hS0
      replace hG2 := Lib.hid hG2
      replace hK2 := Lib.hid hK2
      go_upto_region 10 with (first | (go_at_call 31; (with_reducible refine hM.out.mono ?_); rintro e w3 ⟨rfl, rfl⟩))
      go_loopw [28] (fun i wr => ∃ k : Nat, k ≤ g.l.nm ∧ i = .int .i64 (k : Int) ∧ Hid (BKS G S gb lb b gL cL gF cF g k0 w k wr)) (fun i _ => g.l.nm - (intOf i).toNat)
      case atStart => exact ⟨0, by omega, rfl, hS0⟩
      case round =>
        obtain ⟨k, hk, rfl, hS⟩ := hrel
        by_cases hkl : k < g.l.nm
        · have hkz : (k : Int) < (g.l.nm : Int) := by omega
          have hT := hS.out
          have hr1 := hrow.out.kp hT.kp
          have hP := part_any (k : Int) p len cap ps wr hr1.1 (by omega)
          rw [partI_nat] at hP
          have hskip := hprw.out k
          have hMv : ∀ wv, Below wr.heap.size wr wv → Calls Try.prog 19 #[.pointer (some ⟨b, 0, none⟩), .int .i64 (k : Int)] wv fun e w' => e = .returned (.tuple #[]) ∧ BKS G S gb lb b gL cL gF cF g k0 w (k + 1) w' := fun wv hb => ((hT.gs.below hb).st.moved (k : Int)).mono fun e w' ⟨e1, e2, e3⟩ => by
            have hx2 := (hT.gs.below hb).moved (k : Int) e2 e3
            rw [all_step g.x k0 (by rw [hnx.out]; exact hkl)] at hx2
            exact ⟨e1, hx2, (hT.kp.trans (Kp.of_below hb)).trans e3⟩
          generalize partB k ps = B1 at *
          replace hP := Lib.hid hP
          replace hT := Lib.hid hT
          replace hr1 := Lib.hid hr1
          replace hMv := Lib.hid hMv
          replace hskip := Lib.hid hskip
          cases B1 with
          | false =>
            have hsk : Hid (g.x.all k0 k = g.x.all k0 (k + 1)) := Lib.hid (all_skip g.x k0 (k := k) (hskip.out rfl))
            go_upto_region 12 with fail
            go_upto_region 14 with (first | (go_at_call 32; (with_reducible refine hP.out.mono ?_); rintro e w4 ⟨rfl, hb4⟩))
            have hS2 : BKS G S gb lb b gL cL gF cF g k0 w (k + 1) w4 := ⟨by
              rw [← hsk.out]
              exact hT.out.gs.below hb4, hT.out.kp.trans (Kp.of_below hb4)⟩
            replace hS2 := Lib.hid hS2
            replace hb4 := Lib.hid hb4
            go_wp2_with fail
            go_roundw
            case rel => exact ⟨k + 1, by omega, by go_num, hS2⟩
            case measure => simp [intOf]; omega
          | true =>
            go_upto_region 12 with fail
            go_upto_region 13 with (first | (go_at_call 32; (with_reducible refine hP.out.mono ?_); rintro e w4 ⟨rfl, hb4⟩))
            have c1 := (hT.out.gs.below hb4).c1
            have hM4 := Lib.hid (hMv.out _ hb4)
            replace hb4 := Lib.hid hb4
            go_wp2_with (first | (go_at_call 19; (with_reducible refine hM4.out.mono ?_); rintro e w5 ⟨rfl, hS2⟩; replace hS2 := Lib.hid hS2))
            go_roundw
            case rel => exact ⟨k + 1, by omega, by go_num, hS2⟩
            case measure => simp [intOf]; omega
        · obtain rfl : k = g.l.nm := by omega
          have hkz : ¬ (g.l.nm : Int) < (g.l.nm : Int) := by omega
          have hfin : GG G S gb lb b gL cL gF cF (g.after k0) wr := by
            have h2 := hS.out.gs
            rw [show g.x.all k0 g.l.nm = WM.new g.cs k0 from all_new hlk.out] at h2
            exact h2
          replace hfin := Lib.hid hfin
          go_wp2_with fail
          go_ret
          exact ⟨rfl, hfin.out, hS.out.kp.mono fun j _ e => .inl e⟩
    · have hrz : (r != 0) = true := by simpa using hr
      replace hr := Lib.hid hr
      go_enter Try.func11, Try.ntmps11
      go_upto_region 6 with (first | (go_at_call 28; (with_reducible refine hE.out.mono ?_); rintro e w1 ⟨rfl, hG1, hK1⟩))
      have c0 := GS.c0 hG1
      have hL1 := Lib.hid (hLd.out _ hG1 hK1)
      replace hG1 := Lib.hid hG1
      replace hK1 := Lib.hid hK1
      go_wp2_with (first | (go_at_call 30; (with_reducible refine hL1.out.mono ?_); rintro e w2 ⟨rfl, hG2, hK2⟩; replace hG2 := Lib.hid hG2; replace hK2 := Lib.hid hK2))
      go_ret
      exact ⟨rfl, hsame.out _ hr.out hG2.out, (hK1.out.trans hK2.out).mono fun j _ e => .inl e⟩
end
end Go.Proofs.Ytljclgphgojphaa
