/- Two guards beside each other. -/
import Derived.Test.YtljclgphgojphaaGI
namespace Go.Proofs.Ytljclgphgojphaa
open Go.RowKit
set_option linter.unusedVariables false

/-- another's call: what stays is the larger -/
theorem Apart.other {G G' F : Nat → Prop} {X Y : (Nat → Prop) → World → Prop} {w w' : World} (lX : Live X) (lY : Live Y) (h : Apart G X Y w) (hK : Kp F w w') (hF : ∀ j, j < w.heap.size → F j → G j) (hG : ∀ j, j < w.heap.size → G' j → G j) : Apart G' X Y w' := by
  obtain ⟨PF, RF, hX, hY, h1, h2⟩ := h
  exact ⟨PF, RF, lX.kept hX hK fun j hj hp hf => (h1 j hp).2.1 (hF j hj hf), lY.kept hY hK fun j hj hp hf => (h2 j hp).1 (hF j hj hf), fun j hj => ⟨(h1 j hj).1, fun g => (h1 j hj).2.1 (hG j (h1 j hj).2.2 g), Nat.lt_of_lt_of_le (h1 j hj).2.2 hK.size⟩, fun j hj => ⟨fun g => (h2 j hj).1 (hG j (h2 j hj).2 g), Nat.lt_of_lt_of_le (h2 j hj).2 hK.size⟩⟩
section
variable {G S : Nat → Prop} {gb lb b gL cL gF cF : Nat} {l k : LM} {x y : WM} {L : Nat → Lim} {fl fm : Nat → Bool} {w w' : World}
theorem GS.other {G' F : Nat → Prop} (h : GS G S gb lb b gL cL gF cF l x L fl w) (hK : Kp F w w') (hF : ∀ j, j < w.heap.size → F j → G j ∧ j ≠ gb ∧ j ≠ gL ∧ j ≠ gF ∧ ¬ S j) (hG : ∀ j, j < w.heap.size → (G' j ↔ G j)) (hl : ∀ j, G' j → j < w'.heap.size) : GS G' S gb lb b gL cL gF cF l x L fl w' := by
  have gl := obj_lt h.obj
  have gl2 := h.lim.lt
  have gl3 := h.fr.lt
  have hy : ∀ j, j < w.heap.size → ¬ F j → w'.heap[j]? = w.heap[j]? := fun j hj hn => hK.block j hj hn
  exact ⟨⟨h.st.ap.other (WP.live b lb x) (PL.live lb l) hK (fun j hj hf => (hF j hj hf).1) (fun j hj => (hG j hj).1), h.st.good, hl⟩,
    (hy _ gl fun e => (hF _ gl e).2.1 rfl).trans h.obj,
    h.lim.at hK.size (hy _ gl2 fun e => (hF _ gl2 e).2.2.1 rfl) (fun j hj hs => hy j hj fun e => (hF j hj e).2.2.2.2 hs),
    h.fr.at (hy _ gl3 fun e => (hF _ gl3 e).2.2.2.1 rfl),
    ⟨(hG _ gl).2 h.hg.1, (hG _ gl2).2 h.hg.2.1, (hG _ gl3).2 h.hg.2.2⟩,
    fun j hj => ⟨(hG j (h.st.lt j (h.hs j hj).1)).2 (h.hs j hj).1, (h.hs j hj).2⟩, h.nm, h.nc, h.out⟩
end
/-- the fixed blocks of a guard that another's calls must leave -/
def Fx (G S : Nat → Prop) (gb gL gF j : Nat) : Prop := G j ∧ j ≠ gb ∧ j ≠ gL ∧ j ≠ gF ∧ ¬ S j
/-- two guards, beside all that was there -/
structure TW (wb : World) (S : Nat → Prop) (gb lb b gL cL gF cF : Nat) (g : GM) (T : Nat → Prop) (hb kb d hL eL hF eF : Nat) (h : GM) (wr : World) : Prop where
  gg : ∃ G H, GG G S gb lb b gL cL gF cF g wr ∧ GG H T hb kb d hL eL hF eF h wr ∧
    (∀ j, j < wr.heap.size → (¬ G j ∨ j = gF) → Fx H T hb hL hF j) ∧ (∀ j, j < wr.heap.size → (¬ H j ∨ j = hF) → Fx G S gb gL gF j) ∧ (∀ j, j < wb.heap.size → (G j ∧ j ≠ gF) ∧ H j ∧ j ≠ hF)
  blw : Below wb.heap.size wb wr
section
variable {wb wr wv : World} {S T : Nat → Prop} {gb lb b gL cL gF cF hb kb d hL eL hF eF : Nat} {g h : GM}
theorem TW.swap (t : TW wb S gb lb b gL cL gF cF g T hb kb d hL eL hF eF h wr) : TW wb T hb kb d hL eL hF eF h S gb lb b gL cL gF cF g wr := by
  obtain ⟨⟨G, H, h1, h2, h3, h4, h5⟩, h6⟩ := t
  exact ⟨⟨H, G, h2, h1, h4, h3, fun j hj => (h5 j hj).symm⟩, h6⟩
theorem TW.ok (t : TW wb S gb lb b gL cL gF cF g T hb kb d hL eL hF eF h wr) : g.Ok := by obtain ⟨⟨G, H, h1, _⟩, _⟩ := t; exact h1.ok
theorem fx_new {G S : Nat → Prop} {gb lb b gL cL gF cF : Nat} {g : GM} {w : World} (h : GG G S gb lb b gL cL gF cF g w) {n j : Nat} (h1 : w.heap.size ≤ j) (h2 : j < n) : Fx (fun j => G j ∨ (w.heap.size ≤ j ∧ j < n)) S gb gL gF j := by
  have a1 := obj_lt h.obj
  have a2 := h.lim.lt
  have a3 := h.fr.lt
  exact ⟨.inr ⟨h1, h2⟩, by omega, by omega, by omega, fun e => by have := h.st.lt j (h.hs j e).1; omega⟩
/-- what is made beside them -/
theorem TW.rows (t : TW wb S gb lb b gL cL gF cF g T hb kb d hL eL hF eF h wr) (hbl : Below wr.heap.size wr wv) : ∃ G H, GG G S gb lb b gL cL gF cF g wv ∧ GG H T hb kb d hL eL hF eF h wv ∧
    (∀ j, j < wv.heap.size → (¬ G j ∨ j = gF) → Fx H T hb hL hF j) ∧ (∀ j, j < wv.heap.size → (¬ H j ∨ j = hF) → Fx G S gb gL gF j) ∧ (∀ j, j < wb.heap.size → (G j ∧ j ≠ gF) ∧ H j ∧ j ≠ hF) ∧ (∀ j, wr.heap.size ≤ j → j < wv.heap.size → G j ∧ H j) ∧ Below wb.heap.size wb wv := by
  obtain ⟨⟨G, H, h1, h2, h3, h4, h5⟩, h6⟩ := t
  have hs := hbl.size
  have more : ∀ {G S : Nat → Prop} {gb lb b gL cL gF cF : Nat} {g : GM}, GG G S gb lb b gL cL gF cF g wr → GG (fun j => G j ∨ (wr.heap.size ≤ j ∧ j < wv.heap.size)) S gb lb b gL cL gF cF g wv := fun {G S gb lb b gL cL gF cF g} h1 => GS.more h1 hbl (fun j hj => ⟨fun e => e.resolve_right (by omega), .inl⟩) (fun j hj => by
    rcases hj with hj | hj
    · exact Nat.lt_of_lt_of_le (h1.st.lt j hj) hs
    · exact hj.2)
  refine ⟨_, _, more h1, more h2, fun j hj e => ?_, fun j hj e => ?_, fun j hj => ⟨⟨.inl (h5 j hj).1.1, (h5 j hj).1.2⟩, .inl (h5 j hj).2.1, (h5 j hj).2.2⟩, fun j ha hb => ⟨.inr ⟨ha, hb⟩, .inr ⟨ha, hb⟩⟩, h6.trans (hbl.mono h6.size)⟩
  · by_cases hj2 : j < wr.heap.size
    · have := h3 j hj2 (e.imp (fun e x => e (.inl x)) id)
      exact ⟨.inl this.1, this.2⟩
    · exact fx_new h2 (by omega) hj
  · by_cases hj2 : j < wr.heap.size
    · have := h4 j hj2 (e.imp (fun e x => e (.inl x)) id)
      exact ⟨.inl this.1, this.2⟩
    · exact fx_new h1 (by omega) hj
theorem TW.below (t : TW wb S gb lb b gL cL gF cF g T hb kb d hL eL hF eF h wr) (hbl : Below wr.heap.size wr wv) : TW wb S gb lb b gL cL gF cF g T hb kb d hL eL hF eF h wv := by
  obtain ⟨G, H, h1, h2, h3, h4, h5, _, h6⟩ := t.rows hbl
  exact ⟨⟨G, H, h1, h2, h3, h4, h5⟩, h6⟩
/-- a call of the first one's -/
theorem TW.done {G H : Nat → Prop} {g' : GM} {w' : World} (hw : Below wb.heap.size wb wr) (h1 : GG G S gb lb b gL cL gF cF g wr) (h2 : GG H T hb kb d hL eL hF eF h wr)
    (h3 : ∀ j, j < wr.heap.size → (¬ G j ∨ j = gF) → Fx H T hb hL hF j) (h4 : ∀ j, j < wr.heap.size → (¬ H j ∨ j = hF) → Fx G S gb gL gF j) (h5 : ∀ j, j < wb.heap.size → (G j ∧ j ≠ gF) ∧ H j ∧ j ≠ hF)
    (hd : GG G S gb lb b gL cL gF cF g' w') (hK : Kp (fun j => ¬ G j ∨ j = gF) wr w') : TW wb S gb lb b gL cL gF cF g' T hb kb d hL eL hF eF h w' := by
  have hs := hK.size
  have a3 := h2.fr.lt
  have b3 := h1.fr.lt
  refine ⟨⟨G, fun j => H j ∨ (wr.heap.size ≤ j ∧ j < w'.heap.size), hd, GS.other h2 hK h3 (fun j hj => ⟨fun e => e.resolve_right (by omega), .inl⟩) (fun j hj => by
    rcases hj with hj | hj
    · exact Nat.lt_of_lt_of_le (h2.st.lt j hj) hs
    · exact hj.2), fun j hj e => ?_, fun j hj e => ?_, fun j hj => ⟨(h5 j hj).1, .inl (h5 j hj).2.1, (h5 j hj).2.2⟩⟩, hw.trans (hK.below hw.size fun j hj e => ?_)⟩
  · by_cases hj2 : j < wr.heap.size
    · have := h3 j hj2 e
      exact ⟨.inl this.1, this.2⟩
    · exact fx_new h2 (by omega) hj
  · by_cases hj2 : j < wr.heap.size
    · exact h4 j hj2 (e.imp (fun e x => e (.inl x)) id)
    · exact absurd e fun e => by
        rcases e with e | e
        · exact e (.inr ⟨by omega, hj⟩)
        · omega
  · have := (h5 j hj).1
    rcases e with e | e
    · exact e this.1
    · exact this.2 e
theorem TW.inn (t : TW wb S gb lb b gL cL gF cF g T hb kb d hL eL hF eF h wr) (m c a : Int) (hm : In64 m) (hc : In64 c) (ha : In64 a) : Calls Try.prog 7 #[.pointer (some ⟨gb, 0, none⟩), .int .i64 m, .int .i64 c, .int .i64 a] wr fun e w' => e = .returned (.int .i64 (g.inn m c a).1) ∧ TW wb S gb lb b gL cL gF cF (g.inn m c a).2 T hb kb d hL eL hF eF h w' := by
  obtain ⟨⟨G, H, h1, h2, h3, h4, h5⟩, h6⟩ := t
  exact (gin_any g m c a wr h1 hm hc ha).mono fun e w' ⟨e1, e2, e3⟩ => ⟨e1, TW.done h6 h1 h2 h3 h4 h5 e2 e3⟩
theorem TW.inn2 (t : TW wb S gb lb b gL cL gF cF g T hb kb d hL eL hF eF h wr) (m c a : Int) (hm : In64 m) (hc : In64 c) (ha : In64 a) : Calls Try.prog 7 #[.pointer (some ⟨hb, 0, none⟩), .int .i64 m, .int .i64 c, .int .i64 a] wr fun e w' => e = .returned (.int .i64 (h.inn m c a).1) ∧ TW wb S gb lb b gL cL gF cF g T hb kb d hL eL hF eF (h.inn m c a).2 w' :=
  (t.swap.inn m c a hm hc ha).mono fun e w' ⟨e1, e2⟩ => ⟨e1, e2.swap⟩
theorem TW.fails {p : Option Addr} {len : Nat} {ps : List Pst} (cap : Nat) (m : Int) (t : TW wb S gb lb b gL cL gF cF g T hb kb d hL eL hF eF h wr) (hbl : Below wr.heap.size wr wv) (hr : PRow wv p len ps) (hp : len = 0 ∨ ∃ r off, p = some ⟨r, off, none⟩ ∧ (r < wb.heap.size ∨ wr.heap.size ≤ r)) (hlen : len ≤ 30) :
    Calls Try.prog 8 #[.pointer (some ⟨gb, 0, none⟩), .int .i64 m, .slice p len cap] wv fun e w' => e = .returned (.int .i64 (g.fails m ps)) ∧ TW wb S gb lb b gL cL gF cF g T hb kb d hL eL hF eF h w' := by
  obtain ⟨G, H, h1, h2, h3, h4, h5, hn, h6⟩ := t.rows hbl
  have hrow : PRowG G wv p len ps := by
    refine ⟨hr, ?_⟩
    by_cases h0 : len = 0
    · exact .inl h0
    obtain ⟨r, off, e, hr2⟩ := hp.resolve_left h0
    refine .inr ⟨r, off, e, ?_⟩
    rcases hr2 with hr2 | hr2
    · exact (h5 r hr2).1.1
    · obtain ⟨b', off', e', hlt, _⟩ := hr.2.2.resolve_left h0
      rw [e] at e'
      injection e' with e'
      injection e' with e1
      exact (hn r hr2 (by omega)).1
  exact (h1.fails m p len cap ps hrow hlen).mono fun e w' ⟨e1, e2, e3⟩ => ⟨e1, TW.done h6 h1 h2 h3 h4 h5 e2 (e3.mono fun j _ => .inl)⟩
theorem TW.fails2 {p : Option Addr} {len : Nat} {ps : List Pst} (cap : Nat) (m : Int) (t : TW wb S gb lb b gL cL gF cF g T hb kb d hL eL hF eF h wr) (hbl : Below wr.heap.size wr wv) (hr : PRow wv p len ps) (hp : len = 0 ∨ ∃ r off, p = some ⟨r, off, none⟩ ∧ (r < wb.heap.size ∨ wr.heap.size ≤ r)) (hlen : len ≤ 30) :
    Calls Try.prog 8 #[.pointer (some ⟨hb, 0, none⟩), .int .i64 m, .slice p len cap] wv fun e w' => e = .returned (.int .i64 (h.fails m ps)) ∧ TW wb S gb lb b gL cL gF cF g T hb kb d hL eL hF eF h w' :=
  (t.swap.fails cap m hbl hr hp hlen).mono fun e w' ⟨e1, e2⟩ => ⟨e1, e2.swap⟩
/-- the second one is made behind the first -/
theorem TW.made {w2 w3 : World} (hg : HW wb S gb lb b gL cL gF cF g wr) (hb2 : Below wr.heap.size wr w2) (hh : HW w2 T hb kb d hL eL hF eF h w3) (hf : w2.heap.size ≤ hb ∧ w2.heap.size ≤ hL ∧ ∀ j, T j → w2.heap.size ≤ j) : TW wb S gb lb b gL cL gF cF g T hb kb d hL eL hF eF h w3 := by
  obtain ⟨⟨G, h1, h2⟩, h3⟩ := hg.below hb2
  obtain ⟨⟨H, k1, k2⟩, k3⟩ := hh
  have hs := k3.size
  have hs3 := h3.size
  have a1 := obj_lt h1.obj
  have a2 := h1.lim.lt
  have a3 := h1.fr.lt
  refine ⟨⟨fun j => G j ∨ (w2.heap.size ≤ j ∧ j < w3.heap.size), H, GS.more h1 k3 (fun j hj => ⟨fun e => e.resolve_right (by omega), .inl⟩) (fun j hj => by
    rcases hj with hj | hj
    · exact Nat.lt_of_lt_of_le (h1.st.lt j hj) hs
    · exact hj.2), k1, fun j hj e => ?_, fun j hj e => ?_, fun j hj => ⟨⟨.inl (h2 j hj).1, (h2 j hj).2⟩, k2 j (by omega)⟩⟩, h3.trans (k3.mono hs3)⟩
  · by_cases hj2 : j < w2.heap.size
    · exact ⟨(k2 j hj2).1, by omega, by omega, (k2 j hj2).2, fun e => by have := hf.2.2 j e; omega⟩
    · exact absurd e fun e => by
        rcases e with e | e
        · exact e (.inr ⟨by omega, hj⟩)
        · omega
  · by_cases hj2 : j < w2.heap.size
    · exact absurd e fun e => by
        rcases e with e | e
        · exact e (k2 j hj2).1
        · exact (k2 j hj2).2 e
    · exact fx_new h1 (by omega) hj
end
end Go.Proofs.Ytljclgphgojphaa
