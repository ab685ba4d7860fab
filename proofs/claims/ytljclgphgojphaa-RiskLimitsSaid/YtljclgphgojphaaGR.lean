/- Two guards of one ledger's state, the second with wider limits. -/
import Derived.Test.YtljclgphgojphaaGQ
namespace Go.Proofs.Ytljclgphgojphaa
open Go.RowKit
set_option linter.unusedVariables false

structure RelG (g h : GM) : Prop where
  l : h.l = g.l
  cs : h.cs = g.cs
  L : ∀ m, (∀ c, (g.L m).sh c ≤ (h.L m).sh c) ∧ (g.L m).all ≤ (h.L m).all
theorem RelG.inn {g h : GM} (r : RelG g h) (m c a : Int) : (h.inn m c a).1 = (g.inn m c a).1 ∧ RelG (g.inn m c a).2 (h.inn m c a).2 := by
  have e1 : h.inE m c a = g.inE m c a := by unfold GM.inE GM.x; rw [r.l, r.cs]
  unfold GM.inn
  rw [e1, r.l]
  split
  · exact ⟨rfl, r⟩
  · split
    · exact ⟨rfl, r⟩
    · split
      · exact ⟨rfl, r⟩
      · exact ⟨rfl, rfl, r.cs, r.L⟩
theorem RelG.fails {g h : GM} (r : RelG g h) (ho : g.Ok) (m : Int) (ps : List Pst) : Sub (h.fails m ps) (g.fails m ps) := by
  unfold GM.fails
  rw [r.l, r.cs]
  split
  · exact failF_sub ho.oob (r.L _).1 (r.L _).2
  · exact Sub.refl7 _ ⟨true, true, true, rfl⟩
theorem RelG.new {ls ws : List LV} (l : LM) (cs : List Cur) (h : ∀ (i : Nat) (x : LV), ws[i]? = some x → ∃ y, ls[i]? = some y ∧ Wd y x) (hl : ws.length = ls.length) : RelG (newGM l cs ls) (newGM l cs ws) := ⟨rfl, rfl, LimM_wide h hl⟩
theorem Sub.andNot {x y : Int} (h : Sub x y) : Go.bits .andNot .i64 x y = 0 := by
  obtain ⟨a, b, c, a', b', c', rfl, rfl, h3, h4, h5⟩ := h
  revert h3 h4 h5
  cases a <;> cases b <;> cases c <;> cases a' <;> cases b' <;> cases c' <;> decide
theorem inn_fails {g : GM} (h : g.Ok) {m c a : Int} (h0 : (g.inn m c a).1 = 0) : Sub ((g.inn m c a).2.fails m []) (g.fails m []) := by
  unfold GM.inn at h0 ⊢
  split at h0
  · cases h0
  · split at h0
    · rename_i e; exact absurd h0 e
    · split at h0
      · rename_i e; exact absurd h0 e
      · rename_i e1 e2 e3
        rw [if_neg e1, if_neg e2, if_neg e3]
        exact (inn_sub h (Decidable.not_not.1 e2) (Decidable.not_not.1 e3)).1
/-- two guards beside a box that stays -/
def TB (wb : World) (S : Nat → Prop) (gb lb b gL cL gF cF : Nat) (g : GM) (T : Nat → Prop) (hb kb d hL eL hF eF : Nat) (h : GM) (ob : Nat) (o : Obj) (wr : World) : Prop :=
  ∃ G H : Nat → Prop, GG G S gb lb b gL cL gF cF g wr ∧ GG H T hb kb d hL eL hF eF h wr ∧
    (∀ j, j < wr.heap.size → (¬ G j ∨ j = gF) → Fx H T hb hL hF j) ∧ (∀ j, j < wr.heap.size → (¬ H j ∨ j = hF) → Fx G S gb gL gF j) ∧ (∀ j, j < wb.heap.size → (G j ∧ j ≠ gF) ∧ H j ∧ j ≠ hF) ∧ Below wb.heap.size wb wr ∧
    ((G ob ∧ ob ≠ gF) ∧ H ob ∧ ob ≠ hF) ∧ ob < wr.heap.size ∧ wr.heap[ob]? = some o
section
variable {wb wr wv : World} {S T : Nat → Prop} {gb lb b gL cL gF cF hb kb d hL eL hF eF ob : Nat} {g h : GM} {o : Obj}
theorem TB.tw (t : TB wb S gb lb b gL cL gF cF g T hb kb d hL eL hF eF h ob o wr) : TW wb S gb lb b gL cL gF cF g T hb kb d hL eL hF eF h wr := by
  obtain ⟨G, H, h1, h2, h3, h4, h5, h6, _⟩ := t
  exact ⟨⟨G, H, h1, h2, h3, h4, h5⟩, h6⟩
theorem TB.swap (t : TB wb S gb lb b gL cL gF cF g T hb kb d hL eL hF eF h ob o wr) : TB wb T hb kb d hL eL hF eF h S gb lb b gL cL gF cF g ob o wr := by
  obtain ⟨G, H, h1, h2, h3, h4, h5, h6, h7, h8⟩ := t
  exact ⟨H, G, h2, h1, h4, h3, fun j hj => (h5 j hj).symm, h6, h7.symm, h8⟩
theorem TW.box (t : TW wb S gb lb b gL cL gF cF g T hb kb d hL eL hF eF h wr) (o : Obj) : TB wb S gb lb b gL cL gF cF g T hb kb d hL eL hF eF h wr.heap.size o (wr.alloc o) := by
  have hbl : Below wr.heap.size wr (wr.alloc o) := (Below.refl _ _).alloc (Nat.le_refl _) _
  have hs : wr.heap.size < (wr.alloc o).heap.size := by simp
  have ha : gF < wr.heap.size ∧ hF < wr.heap.size := by obtain ⟨⟨G, H, h1, h2, _⟩, _⟩ := t; exact ⟨h1.fr.lt, h2.fr.lt⟩
  obtain ⟨G, H, h1, h2, h3, h4, h5, hn, h6⟩ := t.rows hbl
  exact ⟨G, H, h1, h2, h3, h4, h5, h6, ⟨⟨(hn _ (Nat.le_refl _) hs).1, by omega⟩, (hn _ (Nat.le_refl _) hs).2, by omega⟩, hs, heap_alloc_new wr o⟩
theorem TB.drew (t : TB wb S gb lb b gL cL gF cF g T hb kb d hL eL hF eF h ob o wr) : TB wb S gb lb b gL cL gF cF g T hb kb d hL eL hF eF h ob o wr.drew := by
  obtain ⟨G, H, h1, h2, h3, h4, h5, h6, h7⟩ := t
  exact ⟨G, H, GS.drew h1, GS.drew h2, h3, h4, h5, h6.drew, h7⟩
theorem TB.inn (t : TB wb S gb lb b gL cL gF cF g T hb kb d hL eL hF eF h ob o wr) (m c a : Int) (hm : In64 m) (hc : In64 c) (ha : In64 a) : Calls Try.prog 7 #[.pointer (some ⟨gb, 0, none⟩), .int .i64 m, .int .i64 c, .int .i64 a] wr fun e w' => e = .returned (.int .i64 (g.inn m c a).1) ∧ TB wb S gb lb b gL cL gF cF (g.inn m c a).2 T hb kb d hL eL hF eF h ob o w' := by
  obtain ⟨G, H, h1, h2, h3, h4, h5, h6, h7, h8, h9⟩ := t
  refine (gin_any g m c a wr h1 hm hc ha).mono fun e w' ⟨e1, e2, hK⟩ => ⟨e1, ?_⟩
  have hs := hK.size
  have a3 := h2.fr.lt
  have b3 := h1.fr.lt
  refine ⟨G, fun j => H j ∨ (wr.heap.size ≤ j ∧ j < w'.heap.size), e2, GS.other h2 hK h3 (fun j hj => ⟨fun e => e.resolve_right (by omega), .inl⟩) (fun j hj => by
    rcases hj with hj | hj
    · exact Nat.lt_of_lt_of_le (h2.st.lt j hj) hs
    · exact hj.2), fun j hj e => ?_, fun j hj e => ?_, fun j hj => ⟨(h5 j hj).1, .inl (h5 j hj).2.1, (h5 j hj).2.2⟩, h6.trans (hK.below h6.size fun j hj e => ?_), ⟨h7.1, .inl h7.2.1, h7.2.2⟩, Nat.lt_of_lt_of_le h8 hs, (hK.block ob h8 fun e => ?_).trans h9⟩
  · by_cases hj2 : j < wr.heap.size
    · have := h3 j hj2 e
      exact ⟨.inl this.1, this.2⟩
    · exact fx_new h2 (by omega) hj
  · by_cases hj2 : j < wr.heap.size
    · exact h4 j hj2 (e.imp (fun e x => e (.inl x)) id)
    · exact absurd e fun e => by
        rcases e with e | e
        · exact e (.inr ⟨by omega, hj⟩)
        · omega
  · have := (h5 j hj).1
    rcases e with e | e
    · exact e this.1
    · exact this.2 e
  · rcases e with e | e
    · exact e h7.1.1
    · exact h7.1.2 e
theorem TB.inn2 (t : TB wb S gb lb b gL cL gF cF g T hb kb d hL eL hF eF h ob o wr) (m c a : Int) (hm : In64 m) (hc : In64 c) (ha : In64 a) : Calls Try.prog 7 #[.pointer (some ⟨hb, 0, none⟩), .int .i64 m, .int .i64 c, .int .i64 a] wr fun e w' => e = .returned (.int .i64 (h.inn m c a).1) ∧ TB wb S gb lb b gL cL gF cF g T hb kb d hL eL hF eF (h.inn m c a).2 ob o w' :=
  (t.swap.inn m c a hm hc ha).mono fun e w' ⟨e1, e2⟩ => ⟨e1, e2.swap⟩
end
end Go.Proofs.Ytljclgphgojphaa
