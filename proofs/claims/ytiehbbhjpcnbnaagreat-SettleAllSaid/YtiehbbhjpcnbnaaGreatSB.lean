/- A guard and a book beside each other in memory; the contracts of Legs and Try. -/
import Derived.Test.YtiehbbhjpcnbnaaGreatSA
namespace Go.Proofs.YtiehbbhjpcnbnaaGreat
open Go.RowKit
set_option linter.unusedVariables false

/-- another's call: what stays is the larger -/
theorem Apart.other {G G' F : Nat → Prop} {X Y : (Nat → Prop) → World → Prop} {w w' : World} (lX : Live X) (lY : Live Y) (h : Apart G X Y w) (hK : Kp F w w') (hF : ∀ j, j < w.heap.size → F j → G j) (hG : ∀ j, j < w.heap.size → G' j → G j) : Apart G' X Y w' := by
  obtain ⟨PF, RF, hX, hY, h1, h2⟩ := h
  exact ⟨PF, RF, lX.kept hX hK fun j hj hp hf => (h1 j hp).2.1 (hF j hj hf), lY.kept hY hK fun j hj hp hf => (h2 j hp).1 (hF j hj hf), fun j hj => ⟨(h1 j hj).1, fun g => (h1 j hj).2.1 (hG j (h1 j hj).2.2 g), Nat.lt_of_lt_of_le (h1 j hj).2.2 hK.size⟩, fun j hj => ⟨fun g => (h2 j hj).1 (hG j (h2 j hj).2 g), Nat.lt_of_lt_of_le (h2 j hj).2 hK.size⟩⟩
section
variable {G S : Nat → Prop} {gb lb b gL cL gF cF : Nat} {l k : LM} {x y : WM} {L : Nat → Lim} {fl fm : Nat → Bool} {w w' : World}
theorem GS.other {G' F : Nat → Prop} (h : GS G S gb lb b gL cL gF cF l x L fl w) (hK : Kp F w w') (hF : ∀ j, j < w.heap.size → F j → G j ∧ j ≠ gb ∧ j ≠ gL ∧ j ≠ gF ∧ ¬ S j) (hG : ∀ j, j < w.heap.size → (G' j ↔ G j)) (hl : ∀ j, G' j → j < w'.heap.size) : GS G' S gb lb b gL cL gF cF l x L fl w' := by
  have gl := obj_lt h.obj
  have gl2 := h.lim.lt
  have gl3 := h.fr.lt
  have hy : ∀ j, j < w.heap.size → ¬ F j → w'.heap[j]? = w.heap[j]? := fun j hj hn => hK.block j hj hn
  exact ⟨⟨h.st.ap.other (WP.live b lb x) (PL.live lb l) hK (fun j hj hf => (hF j hj hf).1) (fun j hj => (hG j hj).1), h.st.good, hl⟩,
    (hy _ gl fun e => (hF _ gl e).2.1 rfl).trans h.obj,
    h.lim.at hK.size (hy _ gl2 fun e => (hF _ gl2 e).2.2.1 rfl) (fun j hj hs => hy j hj fun e => (hF j hj e).2.2.2.2 hs),
    h.fr.at (hy _ gl3 fun e => (hF _ gl3 e).2.2.2.1 rfl),
    ⟨(hG _ gl).2 h.hg.1, (hG _ gl2).2 h.hg.2.1, (hG _ gl3).2 h.hg.2.2⟩,
    fun j hj => ⟨(hG j (h.st.lt j (h.hs j hj).1)).2 (h.hs j hj).1, (h.hs j hj).2⟩, h.nm, h.nc, h.out⟩
end
/-- what stays, but for a guard's own -/
def Fx (G S : Nat → Prop) (gb gL gF j : Nat) : Prop := G j ∧ j ≠ gb ∧ j ≠ gL ∧ j ≠ gF ∧ ¬ S j
theorem fx_new {G S : Nat → Prop} {gb lb b gL cL gF cF : Nat} {g : GM} {w : World} (h : GG G S gb lb b gL cL gF cF g w) {n j : Nat} (h1 : w.heap.size ≤ j) (h2 : j < n) : Fx (fun j => G j ∨ (w.heap.size ≤ j ∧ j < n)) S gb gL gF j := by
  have a1 := obj_lt h.obj
  have a2 := h.lim.lt
  have a3 := h.fr.lt
  exact ⟨.inr ⟨h1, h2⟩, by omega, by omega, by omega, fun e => by have := h.st.lt j (h.hs j e).1; omega⟩
theorem Fx.more {G H S : Nat → Prop} {gb gL gF j : Nat} (h : Fx G S gb gL gF j) (hH : G j → H j) : Fx H S gb gL gF j := ⟨hH h.1, h.2⟩
theorem kp_out {F : Nat → Prop} {w w' : World} (h : Dd.Kp F w w') : Kp F w w' := ⟨h.os, h.tape, h.output, h.size, h.block⟩
theorem kp_in {F : Nat → Prop} {w w' : World} (h : Kp F w w') : Dd.Kp F w w' := ⟨h.os, h.tape, h.output, h.size, h.block⟩

/-- where they lie -/
structure GC where
  S : Nat → Prop
  gb : Nat
  lb : Nat
  wb : Nat
  gL : Nat
  cL : Nat
  gF : Nat
  cF : Nat
  kb : Nat
/-- a guard and a book in memory, beside K's blocks, which stay -/
structure PS (K : Nat → Prop) (c : GC) (s : ST) (w : World) : Prop where
  mem : ∃ G P : Nat → Prop, GG G c.S c.gb c.lb c.wb c.gL c.cL c.gF c.cF s.g w ∧ Dd.PB P w c.kb s.b ∧ (∀ j, P j → Fx G c.S c.gb c.gL c.gF j ∧ j < w.heap.size) ∧ (∀ j, K j → Fx G c.S c.gb c.gL c.gF j ∧ ¬ P j)
  ok : s.Ok
section
variable {K K' : Nat → Prop} {c : GC} {s : ST} {w w' : World}
theorem PS.lt (h : PS K c s w) : ∀ j, K j → j < w.heap.size := fun j hj => by
  obtain ⟨⟨G, P, h1, h2, h3, h4⟩, _⟩ := h
  exact h1.st.lt j (h4 j hj).1.1
theorem PS.less (h : PS K c s w) (hK : ∀ j, K' j → K j) : PS K' c s w := by
  obtain ⟨⟨G, P, h1, h2, h3, h4⟩, h5⟩ := h
  exact ⟨⟨G, P, h1, h2, h3, fun j hj => h4 j (hK j hj)⟩, h5⟩
/-- more stays: what has been made since -/
theorem PS.more (h : PS K c s w) (hb : Below w.heap.size w w') (hK : ∀ j, K' j → K j ∨ (w.heap.size ≤ j ∧ j < w'.heap.size)) : PS K' c s w' := by
  obtain ⟨⟨G, P, h1, h2, h3, h4⟩, h5⟩ := h
  have hs := hb.size
  refine ⟨⟨fun j => G j ∨ (w.heap.size ≤ j ∧ j < w'.heap.size), P, GS.more h1 hb (fun j hj => ⟨fun e => e.resolve_right (by omega), .inl⟩) (fun j hj => ?_), Dd.below_pb h2 hb, fun j hj => ⟨(h3 j hj).1.more .inl, by have := (h3 j hj).2; omega⟩, fun j hj => ?_⟩, h5⟩
  · rcases hj with hj | hj
    · exact Nat.lt_of_lt_of_le (h1.st.lt j hj) hs
    · exact hj.2
  · rcases hK j hj with e | e
    · exact ⟨(h4 j e).1.more .inl, (h4 j e).2⟩
    · exact ⟨fx_new h1 e.1 e.2, fun hp => by have := (h3 j hp).2; omega⟩
theorem PS.below (h : PS K c s w) (hb : Below w.heap.size w w') : PS K c s w' := h.more hb fun j hj => .inl hj
/-- a write to what stays -/
theorem PS.kp {F : Nat → Prop} (h : PS K c s w) (hF : Kp F w w') (hK : ∀ j, j < w.heap.size → F j → K j) : PS K c s w' := by
  obtain ⟨⟨G, P, h1, h2, h3, h4⟩, h5⟩ := h
  have hs := hF.size
  refine ⟨⟨G, P, GS.other h1 hF (fun j hj e => ?_) (fun j hj => Iff.rfl) (fun j hj => Nat.lt_of_lt_of_le (h1.st.lt j hj) hs), (Dd.PB.live c.kb s.b).kept h2 (kp_in hF) fun j hj hp hf => (h4 j (hK j hj hf)).2 hp, fun j hj => ⟨(h3 j hj).1, Nat.lt_of_lt_of_le (h3 j hj).2 hs⟩, h4⟩, h5⟩
  have := (h4 j (hK j hj e)).1
  exact ⟨this.1, this.2.1, this.2.2.1, this.2.2.2.1, this.2.2.2.2⟩
/-- what a call of theirs does -/
def DoneS (K : Nat → Prop) (c : GC) (r : Int × ST) (w : World) (e : Ending) (w' : World) : Prop := e = .returned (.int .i64 r.1) ∧ PS K c r.2 w' ∧ Kp (fun j => ¬ K j) w w'
theorem PS.deal (h : PS K c s w) {id : Int} (hid : In64 id) : Calls Tryz.prog 14 #[.pointer (some ⟨c.kb, 0, none⟩), .int .i64 id] w fun e w' => e = .returned (.tuple #[(s.b.deal id).1.val, .bool (s.b.deal id).2]) ∧ Below w.heap.size w w' := by
  obtain ⟨⟨G, P, h1, h2, h3, h4⟩, h5⟩ := h
  exact Dd.deal_any h2 hid (by have := h5.b.len; omega)
theorem PS.state (h : PS K c s w) {id : Int} (hid : In64 id) : Calls Tryz.prog 15 #[.pointer (some ⟨c.kb, 0, none⟩), .int .i64 id] w fun e w' => e = .returned (.int .i64 (s.b.state id)) ∧ w = w' := by
  obtain ⟨⟨G, P, h1, h2, h3, h4⟩, h5⟩ := h
  exact Dd.state_any h2 hid (by have := h5.b.len; omega)
/-- a book's call -/
theorem PS.book_done {G P P' : Nat → Prop} {b' : Dd.Bk} (h1 : GG G c.S c.gb c.lb c.wb c.gL c.cL c.gF c.cF s.g w) (h3 : ∀ j, P j → Fx G c.S c.gb c.gL c.gF j ∧ j < w.heap.size) (h4 : ∀ j, K j → Fx G c.S c.gb c.gL c.gF j ∧ ¬ P j)
    (hP : ∀ j, P' j → P j ∨ w.heap.size ≤ j) (hb : Dd.PB P' w' c.kb b') (hK : Dd.Kp P' w w') (hk : (ST.mk s.g b').Ok) : PS K c ⟨s.g, b'⟩ w' ∧ Kp (fun j => ¬ K j) w w' := by
  have hs := hK.size
  have hPK : ∀ j, j < w.heap.size → P' j → P j := fun j hj hp => (hP j hp).resolve_right (by omega)
  refine ⟨⟨⟨fun j => G j ∨ (w.heap.size ≤ j ∧ j < w'.heap.size), fun j => P' j ∧ j < w'.heap.size, GS.other h1 (kp_out hK) (fun j hj e => ?_) (fun j hj => ⟨fun e => e.resolve_right (by omega), .inl⟩) (fun j hj => ?_), (Dd.PB.live c.kb b').weak hb fun j hj hp => ⟨hp, hj⟩, fun j hj => ⟨?_, hj.2⟩, fun j hj => ⟨(h4 j hj).1.more .inl, fun hp => ?_⟩⟩, hk⟩, (kp_out hK).mono fun j hj hp hk => (h4 j hk).2 (hPK j hj hp)⟩
  · have := (h3 j (hPK j hj e)).1
    exact ⟨this.1, this.2.1, this.2.2.1, this.2.2.2.1, this.2.2.2.2⟩
  · rcases hj with hj | hj
    · exact Nat.lt_of_lt_of_le (h1.st.lt j hj) hs
    · exact hj.2
  · by_cases hl : j < w.heap.size
    · exact (h3 j (hPK j hl hj.1)).1.more .inl
    · exact fx_new h1 (by omega) hj.2
  · have hl := h1.st.lt j (h4 j hj).1.1
    exact (h4 j hj).2 (hPK j hl hp.1)
theorem set_sz (b : Dd.Bk) (id : Int) : (b.set id).2.mem = b.mem ∧ (b.set id).2.cur = b.cur := by
  unfold Dd.Bk.set; split
  · exact ⟨rfl, rfl⟩
  · dsimp only; split <;> exact ⟨rfl, rfl⟩
theorem sub_sz (b : Dd.Bk) (d : Dd.Dl) : (b.sub d).2.mem = b.mem ∧ (b.sub d).2.cur = b.cur := by
  unfold Dd.Bk.sub
  repeat' (first | (split; skip) | exact ⟨rfl, rfl⟩ | dsimp only)
theorem PS.set (h : PS K c s w) {id : Int} (hid : In64 id) : Calls Tryz.prog 41 #[.pointer (some ⟨c.kb, 0, none⟩), .int .i64 id] w (DoneS K c ((s.b.set id).1, ⟨s.g, (s.b.set id).2⟩) w) := by
  obtain ⟨⟨G, P, h1, h2, h3, h4⟩, h5⟩ := h
  refine (Dd.settle_any h2 hid (by have := h5.b.len; omega)).mono fun e w' ⟨e1, e2, e3⟩ => ⟨e1, PS.book_done (s := s) h1 h3 h4 (fun j hj => .inl hj) e2 e3 ⟨h5.g, Dd.set_ok h5.b id, by rw [(set_sz _ _).1]; exact h5.nm, by rw [(set_sz _ _).2]; exact h5.nc⟩⟩
theorem PS.sub (h : PS K c s w) (d : Dd.Dl) (hd : d.In) : Calls Tryz.prog 25 #[.pointer (some ⟨c.kb, 0, none⟩), d.val] w fun e w' => e = .returned (.tuple #[.bool (s.b.sub d).1.1, .int .i64 (s.b.sub d).1.2]) ∧ PS K c ⟨s.g, (s.b.sub d).2⟩ w' ∧ Kp (fun j => ¬ K j) w w' := by
  obtain ⟨⟨G, P, h1, h2, h3, h4⟩, h5⟩ := h
  refine (Dd.submit_any ((Dd.PB.live c.kb s.b).weak (Q := fun j => P j ∨ w.heap.size ≤ j) h2 fun j _ hp => .inl hp) d hd.id h5.b.len (by have := h5.b.many.2; omega) (fun i hi => .inr hi)).mono fun e w' ⟨e1, e2, e3⟩ => ⟨e1, PS.book_done (s := s) h1 h3 h4 (fun j hj => hj) e2 e3 ⟨h5.g, Dd.sub_ok h5.b d hd, by rw [(sub_sz _ _).1]; exact h5.nm, by rw [(sub_sz _ _).2]; exact h5.nc⟩⟩
/-- a guard's call -/
theorem PS.guard_done {G P : Nat → Prop} {g' : GM} (h1 : GG G c.S c.gb c.lb c.wb c.gL c.cL c.gF c.cF s.g w) (h2 : Dd.PB P w c.kb s.b) (h3 : ∀ j, P j → Fx G c.S c.gb c.gL c.gF j ∧ j < w.heap.size) (h4 : ∀ j, K j → Fx G c.S c.gb c.gL c.gF j ∧ ¬ P j)
    (hg : GG G c.S c.gb c.lb c.wb c.gL c.cL c.gF c.cF g' w') (hK : Kp (fun j => ¬ G j ∨ j = c.gF) w w') (hk : (ST.mk g' s.b).Ok) : PS K c ⟨g', s.b⟩ w' ∧ Kp (fun j => ¬ K j) w w' := by
  have hno : ∀ j, Fx G c.S c.gb c.gL c.gF j → ¬ (¬ G j ∨ j = c.gF) := fun j hf e => by
    rcases e with e | e
    · exact e hf.1
    · exact hf.2.2.2.1 e
  exact ⟨⟨⟨G, P, hg, (Dd.PB.live c.kb s.b).kept h2 (kp_in hK) fun j _ hp => hno j (h3 j hp).1, fun j hj => ⟨(h3 j hj).1, Nat.lt_of_lt_of_le (h3 j hj).2 hK.size⟩, h4⟩, hk⟩, hK.mono fun j _ hf hk => hno j (h4 j hk).1 hf⟩
theorem book_ok {s : ST} (h : s.Ok) (ps : List Pst) : (ST.mk (s.g.book ps).2 s.b).Ok := by
  have hb := book_like h.g.good ps
  exact ⟨⟨hb.1, by rw [hb.2.2.1, h.g.nc, hb.2.1.2], by rw [hb.2.2.1]; exact h.g.chk⟩, h.b, by rw [h.nm, ← hb.2.1.1], by rw [h.nc, ← hb.2.1.2]⟩
theorem PS.book {p : Option Addr} {len : Nat} {ps : List Pst} (cap : Nat) (h : PS K c s w) (hr : PRow w p len ps) (hK : len = 0 ∨ ∃ r off, p = some ⟨r, off, none⟩ ∧ K r) (hlen : len ≤ 30) :
    Calls Tryz.prog 40 #[.pointer (some ⟨c.gb, 0, none⟩), .slice p len cap] w (DoneS K c ((s.g.book ps).1, ⟨(s.g.book ps).2, s.b⟩) w) := by
  obtain ⟨⟨G, P, h1, h2, h3, h4⟩, h5⟩ := h
  exact (gbook_any s.g p len cap ps w h1 ⟨hr, hK.imp id fun ⟨r, off, e, hk⟩ => ⟨r, off, e, (h4 r hk).1.1⟩⟩ hlen).mono fun e w' ⟨e1, e2, e3⟩ => ⟨e1, PS.guard_done (s := s) h1 h2 h3 h4 e2 e3 (book_ok h5 ps)⟩
theorem inn_like {g : GM} (hg : g.l.Good) (m x a : Int) : (g.inn m x a).2.l.Good ∧ g.l.like (g.inn m x a).2.l ∧ (g.inn m x a).2.cs = g.cs ∧ (g.inn m x a).2.L = g.L := by
  unfold GM.inn
  split
  · exact ⟨hg, ⟨rfl, rfl⟩, rfl, rfl⟩
  split
  · exact ⟨hg, ⟨rfl, rfl⟩, rfl, rfl⟩
  split
  · exact ⟨hg, ⟨rfl, rfl⟩, rfl, rfl⟩
  · exact ⟨(inn_good hg m x a).1, (inn_good hg m x a).2.1, rfl, rfl⟩
theorem innS_ok {s : ST} (h : s.Ok) (m x a : Int) : (ST.mk (s.g.inn m x a).2 s.b).Ok := by
  have hb := inn_like h.g.good m x a
  exact ⟨⟨hb.1, by rw [hb.2.2.1, h.g.nc, hb.2.1.2], by rw [hb.2.2.1]; exact h.g.chk⟩, h.b, by rw [h.nm, ← hb.2.1.1], by rw [h.nc, ← hb.2.1.2]⟩
theorem PS.inn (h : PS K c s w) {m x a : Int} (hm : In64 m) (hx : In64 x) (ha : In64 a) : Calls Tryz.prog 19 #[.pointer (some ⟨c.gb, 0, none⟩), .int .i64 m, .int .i64 x, .int .i64 a] w (DoneS K c ((s.g.inn m x a).1, ⟨(s.g.inn m x a).2, s.b⟩) w) := by
  obtain ⟨⟨G, P, h1, h2, h3, h4⟩, h5⟩ := h
  exact (gin_any s.g m x a w h1 hm hx ha).mono fun e w' ⟨e1, e2, e3⟩ => ⟨e1, PS.guard_done (s := s) h1 h2 h3 h4 e2 e3 (innS_ok h5 m x a)⟩
theorem PS.get (h : PS K c s w) (m x : Int) : Calls Tryz.prog 21 #[.pointer (some ⟨c.lb, 0, none⟩), .int .i64 m, .int .i64 x] w fun e w' => e = .returned (.int .i64 (s.g.l.get m x)) ∧ w = w' := by
  obtain ⟨⟨G, P, h1, h2, h3, h4⟩, h5⟩ := h
  obtain ⟨Q, gB, cB, hP⟩ := h1.st.pl
  exact get_any m x w hP
theorem PS.text (h : PS K c s w) : Calls Tryz.prog 11 #[.pointer (some ⟨c.lb, 0, none⟩)] w fun e w' => e = .returned (sv s.g.l.text) ∧ Below w.heap.size w w' := by
  obtain ⟨⟨G, P, h1, h2, h3, h4⟩, h5⟩ := h
  obtain ⟨Q, gB, cB, hP⟩ := h1.st.pl
  exact ptext_any w hP h1.st.good
set_option maxHeartbeats 1000000 in
theorem PS.ledger (h : PS K c s w) : Calls Tryz.prog 9 #[.pointer (some ⟨c.gb, 0, none⟩)] w fun e w' => e = .returned (.pointer (some ⟨c.lb, 0, none⟩)) ∧ w = w' := by
  obtain ⟨⟨G, P, h1, h2, h3, h4⟩, h5⟩ := h
  have c0 := GS.c0 h1
  clear h1 h2 h3 h4 h5
  go_enter Tryz.func9, Tryz.ntmps9
  go_wp2_with fail
  go_ret
  exact ⟨rfl, rfl⟩
end
theorem neg64 {s : Int} (h1 : 1 ≤ s) (h2 : In64 s) : wrap64 (-s) = -s := by
  unfold wrap64
  unfold In64 at h2
  omega
theorem legs_len (d : Dd.Dl) : (legs d).length = 4 := rfl
set_option maxHeartbeats 2000000 in
set_option maxRecDepth 100000 in
/-- Legs -/
theorem legs_any (d : Dd.Dl) (hd : d.In) (hs : 1 ≤ d.s) (ht : 1 ≤ d.t) (w : World) : Calls Tryz.prog 17 #[d.val] w fun e w' => ∃ b, e = .returned (.slice (some ⟨b, 0, none⟩) 4 4) ∧ w.heap.size ≤ b ∧ b < w'.heap.size ∧ PRow w' (some ⟨b, 0, none⟩) 4 (legs d) ∧ Below w.heap.size w w' := by
  have e1 := neg64 hs hd.s
  have e2 := neg64 ht hd.t
  have hb1 : Below w.heap.size w (w.alloc d.obj) := (Below.refl _ _).alloc (Nat.le_refl _) _
  have hn := heap_alloc_new w d.obj
  obtain ⟨k0, k1, k2, k3, k4, k5, k6⟩ := Dd.boxD _ _ d hn
  have hin : ∀ q ∈ legs d, In64 q.m ∧ In64 q.c ∧ In64 q.a := fun q hq => by
    have i1 := hd.s
    have i2 := hd.t
    unfold legs at hq
    unfold Dd.In64 at i1 i2
    simp only [List.mem_cons, List.not_mem_nil, or_false] at hq
    rcases hq with rfl | rfl | rfl | rfl
    · exact ⟨hd.a, hd.sc, by show In64 (-d.s); unfold In64; omega⟩
    · exact ⟨hd.b, hd.sc, hd.s⟩
    · exact ⟨hd.b, hd.bc, by show In64 (-d.t); unfold In64; omega⟩
    · exact ⟨hd.a, hd.bc, hd.t⟩
  replace hin := Lib.hid hin
  replace hn := Lib.hid hn
  unfold Dd.Dl.obj at *
  unfold Dd.Dl.val at *
  have hsz : (w.alloc (.cells #[.int .i64 d.id, .int .i64 d.a, .int .i64 d.b, .int .i64 d.sc, .int .i64 d.bc, .int .i64 d.s, .int .i64 d.t] 44)).heap.size = w.heap.size + 1 := by simp
  go_enter Tryz.func17, Tryz.ntmps17
  go_upto_region 1 with fail
  generalize w.alloc _ = w1 at *
  replace hb1 := Lib.hid hb1
  replace hsz := Lib.hid hsz
  go_wp2_with fail
  go_ret
  refine ⟨w1.heap.size, rfl, (by rw [hsz.out]; omega), (by simp), ⟨rfl, hin.out, .inr ⟨w1.heap.size, 0, rfl, (by simp), ?_⟩⟩, hb1.out.trans (((Below.refl _ w1).alloc (Nat.le_refl _) _).mono hb1.out.size)⟩
  intro i q hq
  have hb := heap_alloc_new w1 (.cells #[.int .i64 d.a, .int .i64 d.sc, .int .i64 (-d.s), .int .i64 d.b, .int .i64 d.sc, .int .i64 d.s, .int .i64 d.b, .int .i64 d.bc, .int .i64 (-d.t), .int .i64 d.a, .int .i64 d.bc, .int .i64 d.t] 60)
  match i with
  | 0 => injection hq with hq; rw [← hq]; exact ⟨obj_cell hb rfl, obj_cell hb rfl, obj_cell hb rfl⟩
  | 1 => injection hq with hq; rw [← hq]; exact ⟨obj_cell hb rfl, obj_cell hb rfl, obj_cell hb rfl⟩
  | 2 => injection hq with hq; rw [← hq]; exact ⟨obj_cell hb rfl, obj_cell hb rfl, obj_cell hb rfl⟩
  | 3 => injection hq with hq; rw [← hq]; exact ⟨obj_cell hb rfl, obj_cell hb rfl, obj_cell hb rfl⟩
  | i + 4 => simp [legs] at hq
end Go.Proofs.YtiehbbhjpcnbnaaGreat
