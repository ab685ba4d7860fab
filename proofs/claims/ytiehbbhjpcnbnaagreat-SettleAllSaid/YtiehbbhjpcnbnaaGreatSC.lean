/- The contract of Try. -/
import Derived.Test.YtiehbbhjpcnbnaaGreatSB
import Derived.Test.YtiehbbhjpcnbnaaGreatMBD
namespace Go.Proofs.YtiehbbhjpcnbnaaGreat
open Go.RowKit
set_option linter.unusedVariables false

theorem deal_known {s : ST} (h : s.Ok) {id : Int} (hk : (s.b.deal id).2 = true) : ∃ e ∈ s.b.l, e.d = (s.b.deal id).1 ∧ e.st = s.b.state id ∧ e.d.id = id := by
  unfold Dd.Bk.deal at hk ⊢
  unfold Dd.Bk.state
  rcases ha : Dd.atL s.b.l id with _ | i
  · rw [ha] at hk; simp at hk
  · obtain ⟨hi, he⟩ := Dd.atL_some ha
    dsimp only
    rw [Dd.getD_is hi]
    exact ⟨_, List.getElem_mem hi, rfl, rfl, he⟩
theorem deal_may {s : ST} (h : s.Ok) {id : Int} (hk : (s.b.deal id).2 = true) : Dd.mayB (s.b.deal id).1 s.b.mem s.b.cur = true ∧ (s.b.deal id).1.In := by
  obtain ⟨e, he, e1, _⟩ := deal_known h hk
  rw [← e1]
  exact ⟨(h.b.may e he).1, (h.b.may e he).2.1⟩
section
variable {K : Nat → Prop} {c : GC} {s : ST} {w w' : World}
theorem PS.doneS (h : PS K c s w) (hb : Below w.heap.size w w') : PS K c s w' ∧ Kp (fun j => ¬ K j) w w' := ⟨h.below hb, Kp.of_below hb⟩
set_option maxHeartbeats 4000000 in
set_option maxRecDepth 100000 in
theorem PS.tryc (h : PS K c s w) {id : Int} (hid : In64 id) : Calls Tryz.prog 18 #[.pointer (some ⟨c.gb, 0, none⟩), .pointer (some ⟨c.kb, 0, none⟩), .int .i64 id] w (DoneS K c (tryS s id) w) := by
  have c1 := h.deal hid
  obtain ⟨D, hD⟩ : ∃ D, D = (s.b.deal id).1 := ⟨_, rfl⟩
  obtain ⟨k, hk⟩ : ∃ k, k = (s.b.deal id).2 := ⟨_, rfl⟩
  have htry : tryS s id = (if k = false then (5, s) else if s.b.state id ≠ 2 then (7, s) else if (s.g.book (legs D)).1 ≠ 0 then ((s.g.book (legs D)).1, ⟨(s.g.book (legs D)).2, s.b⟩) else ((s.b.set id).1, ⟨(s.g.book (legs D)).2, (s.b.set id).2⟩)) := by
    rw [hD, hk]; rfl
  have hmay : k = true → Dd.mayB D s.b.mem s.b.cur = true ∧ D.In := fun e => by rw [hD]; exact deal_may h.ok (by rw [← hk]; exact e)
  rw [← hD, ← hk] at c1
  rw [htry]
  clear hk hD htry
  unfold Dd.Dl.val at c1
  replace hid := Lib.hid hid
  replace hmay := Lib.hid hmay
  replace h := Lib.hid h
  cases k with
  | false =>
    rw [if_pos rfl]
    go_enter Tryz.func18, Tryz.ntmps18
    go_wp2_with (go_at_call 14; (with_reducible refine c1.mono ?_); rintro e w1 ⟨rfl, hb1⟩; replace hb1 := Lib.hid hb1)
    go_ret
    exact ⟨rfl, h.out.doneS (hb1.out.trans (((Below.refl _ w1).alloc (Nat.le_refl _) _).mono hb1.out.size))⟩
  | true =>
    rw [if_neg (by decide)]
    go_enter Tryz.func18, Tryz.ntmps18
    go_upto_region 4 with (go_at_call 14; (with_reducible refine c1.mono ?_); rintro e w1 ⟨rfl, hb1⟩; replace hb1 := Lib.hid hb1)
    obtain ⟨hm1, hm2⟩ := hmay.out trivial
    clear hmay
    have hn := heap_alloc_new w1 D.obj
    obtain ⟨k0, k1, k2, k3, k4, k5, k6⟩ := Dd.boxD _ _ D hn
    have hb2 : Below w.heap.size w (w1.alloc D.obj) := hb1.out.trans (((Below.refl _ w1).alloc (Nat.le_refl _) _).mono hb1.out.size)
    have h2 := h.out.below hb2
    have cS := h2.state hid.out
    have hd1 : 1 ≤ D.s ∧ 1 ≤ D.t := by have := Dd.mayB_iff.1 hm1; omega
    have cL := legs_any D hm2 hd1.1 hd1.2 (w1.alloc D.obj)
    replace h2 := Lib.hid h2
    replace hb2 := Lib.hid hb2
    clear hb1 hn hm1
    unfold Dd.Dl.obj at *
    unfold Dd.Dl.val at *
    generalize w1.alloc _ = w2 at *
    by_cases hst : s.b.state id = 2
    · rw [if_neg (by simpa using hst)]
      rw [hst] at cS
      have cB : ∀ b w3, PRow w3 (some ⟨b, 0, none⟩) 4 (legs D) → Below w2.heap.size w2 w3 → w2.heap.size ≤ b → b < w3.heap.size → Calls Tryz.prog 40 #[.pointer (some ⟨c.gb, 0, none⟩), .slice (some ⟨b, 0, none⟩) 4 4] w3 fun e w' => e = .returned (.int .i64 (s.g.book (legs D)).1) ∧ PS K c ⟨(s.g.book (legs D)).2, s.b⟩ w' ∧ Kp (fun j => ¬ K j) w w' := fun b w3 hr hb3 g1 g2 => by
        have h3 := h2.out.more (K' := fun j => K j ∨ (w2.heap.size ≤ j ∧ j < w3.heap.size)) hb3 fun j hj => hj
        refine (h3.book 4 hr (.inr ⟨b, 0, rfl, .inr ⟨g1, g2⟩⟩) (by omega)).mono fun e w' ⟨e1, e2, e3⟩ => ⟨e1, e2.less fun j hj => .inl hj, ?_⟩
        exact (Kp.of_below (hb2.out.trans (hb3.mono hb2.out.size))).trans (e3.mono fun j _ hn hk => hn (.inl hk))
      by_cases hbk : (s.g.book (legs D)).1 = 0
      · rw [if_neg (by simpa using hbk)]
        rw [hbk] at cB
        generalize (s.g.book (legs D)).2 = g' at *
        have cT : ∀ w4, PS K c ⟨g', s.b⟩ w4 → _ := fun w4 h4 => h4.set hid.out
        replace cB := Lib.hid cB
        replace cT := Lib.hid cT
        go_wp2_with (first | (go_at_call 15; (with_reducible refine cS.mono ?_); rintro e w' ⟨rfl, rfl⟩) | (go_at_call 17; (with_reducible refine cL.mono ?_); rintro e w3 ⟨b, rfl, g1, g2, hr, hb3⟩; replace hr := Lib.hid hr; have cB2 := cB.out b w3 hr.out hb3 g1 g2; replace hb3 := Lib.hid hb3) | (go_at_call 40; (with_reducible refine cB2.mono ?_); rintro e w4 ⟨rfl, h4, hk4⟩; have cT2 := cT.out w4 h4; replace h4 := Lib.hid h4; replace hk4 := Lib.hid hk4) | (go_at_call 41; (with_reducible refine cT2.mono ?_); rintro e w5 ⟨rfl, h5, hk5⟩; replace h5 := Lib.hid h5; replace hk5 := Lib.hid hk5))
        go_ret
        exact ⟨rfl, h5.out, hk4.out.trans hk5.out⟩
      · rw [if_pos hbk]
        generalize (s.g.book (legs D)).2 = g' at *
        generalize (s.g.book (legs D)).1 = r at *
        have hbz : (r != 0) = true := by simpa using hbk
        replace cB := Lib.hid cB
        replace hbk := Lib.hid hbk
        go_wp2_with (first | (go_at_call 15; (with_reducible refine cS.mono ?_); rintro e w' ⟨rfl, rfl⟩) | (go_at_call 17; (with_reducible refine cL.mono ?_); rintro e w3 ⟨b, rfl, g1, g2, hr, hb3⟩; replace hr := Lib.hid hr; have cB2 := cB.out b w3 hr.out hb3 g1 g2; replace hb3 := Lib.hid hb3) | (go_at_call 40; (with_reducible refine cB2.mono ?_); rintro e w4 ⟨rfl, h4, hk4⟩; replace h4 := Lib.hid h4; replace hk4 := Lib.hid hk4))
        go_ret
        exact ⟨rfl, h4.out, hk4.out⟩
    · rw [if_pos hst]
      generalize s.b.state id = st at *
      have hz : (st != 2) = true := by simpa using hst
      replace hst := Lib.hid hst
      go_wp2_with (first | (go_at_call 15; (with_reducible refine cS.mono ?_); rintro e w' ⟨rfl, rfl⟩))
      go_ret
      exact ⟨rfl, h2.out, Kp.of_below hb2.out⟩
end
end Go.Proofs.YtiehbbhjpcnbnaaGreat
