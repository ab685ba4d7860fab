/- The contracts of Rescind, add, learn, Submit. -/
import Derived.Test.YtflbggehgjllcaaDoorDE
namespace Go.Proofs.YtflbggehgjllcaaDoor
open Go.RowKit Go.Maps
set_option linter.unusedVariables false
theorem bcellD {W w1 : World} (hb : Below W.heap.size W w1) : (∀ b o, b < W.heap.size → w1.cell? ⟨b, o, none⟩ = W.cell? ⟨b, o, none⟩) ∧ (∀ b o, b < W.heap.size → w1.frozen? ⟨b, o, none⟩ = W.frozen? ⟨b, o, none⟩) :=
  ⟨fun b o h => hb.cell (p := ⟨b, o, none⟩) h, fun b o h => hb.frozen (p := ⟨b, o, none⟩) h⟩
section
variable {P : Nat → Prop} {w : World} {gb : Nat} {b : Bk} {v : Value} {mb : Nat} {D : DataW Value}
theorem PBv.entry (h : PBv P w gb b v mb D) {i g : Nat} (hi : i < b.l.length) (hg : v.ownBlock = some g) : w.cell? ⟨g, i * 10, none⟩ = some (.int .i64 (b.l[i]).d.id) ∧ w.cell? ⟨g, i * 10 + 1, none⟩ = some (.int .i64 (b.l[i]).d.a) ∧ w.cell? ⟨g, i * 10 + 2, none⟩ = some (.int .i64 (b.l[i]).d.b) ∧ w.cell? ⟨g, i * 10 + 3, none⟩ = some (.int .i64 (b.l[i]).d.sc) ∧ w.cell? ⟨g, i * 10 + 4, none⟩ = some (.int .i64 (b.l[i]).d.bc) ∧ w.cell? ⟨g, i * 10 + 5, none⟩ = some (.int .i64 (b.l[i]).d.s) ∧ w.cell? ⟨g, i * 10 + 6, none⟩ = some (.int .i64 (b.l[i]).d.t) ∧ w.cell? ⟨g, i * 10 + 7, none⟩ = some (.int .i64 (b.l[i]).st) ∧ w.cell? ⟨g, i * 10 + 8, none⟩ = some (.int .i64 (b.l[i]).ask) ∧ w.cell? ⟨g, i * 10 + 9, none⟩ = some (.int .i64 (b.l[i]).nth) :=
  ⟨h.cells hg hi 0 _ (by omega) rfl, h.cells hg hi 1 _ (by omega) rfl, h.cells hg hi 2 _ (by omega) rfl, h.cells hg hi 3 _ (by omega) rfl, h.cells hg hi 4 _ (by omega) rfl, h.cells hg hi 5 _ (by omega) rfl, h.cells hg hi 6 _ (by omega) rfl, h.cells hg hi 7 _ (by omega) rfl, h.cells hg hi 8 _ (by omega) rfl, h.cells hg hi 9 _ (by omega) rfl⟩
theorem PBv.below (h : PBv P w gb b v mb D) {w' : World} (hb : Below w.heap.size w w') : PBv P w' gb b v mb D := h.kept (Kp.of_below (F := fun _ => False) hb) (fun _ _ _ h => h)
theorem and_side {x s : Int} (hx : x = 0 ∨ x = 1 ∨ x = 2 ∨ x = 3) (hs : s = 1 ∨ s = 2) : ((bits .and .i64 x s) != 0) = decide (x = s ∨ x = 3) := by
  rcases hx with rfl | rfl | rfl | rfl <;> rcases hs with rfl | rfl <;> decide
set_option maxHeartbeats 2000000 in
set_option maxRecDepth 100000 in
theorem rescind_any (h : PB P w gb b) (m : Int) {id : Int} (hid : In64 id) (hlen : b.l.length ≤ 1000) (hask : ∀ e ∈ b.l, 0 ≤ e.ask ∧ e.ask ≤ 3) :
    Calls Tryd.prog 20 #[.pointer (some ⟨gb, 0, none⟩), .int .i64 m, .int .i64 id] w fun e w' => e = .returned (.tuple #[.int .i64 (b.res m id).1.1, .int .i64 (b.res m id).1.2]) ∧ PB P w' gb (b.res m id).2 ∧ Kp P w w' := by
  obtain ⟨v, mb, D, h⟩ := h
  rcases ha : atL b.l id with _ | i
  · have c := h.find_none hid ha
    have e : b.res m id = ((0, 5), b) := by unfold Bk.res; rw [ha]
    have hP : PB P w gb b := ⟨v, mb, D, h⟩
    rw [e]
    replace hP := Lib.hid hP
    clear h ha e
    go_enter Tryd.func20, Tryd.ntmps20
    go_wp2_with (go_at_call 46; (with_reducible refine c.mono ?_); rintro e w' ⟨rfl, rfl⟩)
    go_ret2
    exact ⟨rfl, hP.out, Kp.refl _ _⟩
  · obtain ⟨hlt, -⟩ := atL_some ha
    obtain ⟨g, hg⟩ := h.has hlt
    have c := h.find_some hid ha hg hlen
    obtain ⟨c0, c1, c2, c3, c4, c5, c6, c7, c8, c9⟩ := h.entry hlt hg
    have hgl := (World.ownsRow.lt h.row g hg).2
    have hx := hask _ (List.getElem_mem hlt)
    have hk := fun w' (hb : Below w.heap.size w w') => ask_any (h.below hb) hlt hg
    have hE : ∀ r : (Int × Int) × Bk, (b.res m id = r) → True := fun _ _ => trivial
    have hsd : (b.l[i]).side m = 0 ∨ (b.l[i]).side m = 1 ∨ (b.l[i]).side m = 2 := by unfold En.side; split <;> (try split) <;> omega
    have cs := side_any (b.l[i]) m w
    have co := fun w' => open_any (b.l[i]) w'
    have hres : b.res m id = if (b.l[i]).side m = 0 then ((0, 5), b) else if (b.l[i]).open = false then ((0, 7), b) else if (b.l[i]).ask = (b.l[i]).side m ∨ (b.l[i]).ask = 3 then ((0, 6), b) else ((((b.l[i]).asks ((b.l[i]).side m)).st, 0), { b with l := b.l.set i ((b.l[i]).asks ((b.l[i]).side m)) }) := by
      unfold Bk.res; rw [ha]; dsimp only; rw [getD_at hlt]
    have hst7 := fun w' (h' : PBv P w' gb { b with l := b.l.set i ((b.l[i]).asks ((b.l[i]).side m)) } v mb D) => (h'.entry (i := i) (g := g) (by simpa using hlt) hg).2.2.2.2.2.2.2.1
    simp only [List.getElem_set_self] at hst7
    unfold En.val at cs co
    by_cases s0 : (b.l[i]).side m = 0
    · rw [if_pos s0] at hres
      rw [hres]
      have q : ((b.l[i]).side m == 0) = true := by simp [s0]
      clear hres ha hask hx hk hE hst7 s0 hsd
      generalize (b.l[i]).side m = sd at *
      replace h := Lib.hid h
      generalize b.l[i] = x at *
      go_enter Tryd.func20, Tryd.ntmps20
      go_wp2_with (first | (go_at_call 46; (with_reducible refine c.mono ?_); rintro e w' ⟨rfl, rfl⟩) | (go_at_call 49; (with_reducible refine cs.mono ?_); rintro e w1 ⟨rfl, hb⟩))
      go_ret2
      exact ⟨rfl, ⟨v, mb, D, h.out.below hb⟩, Kp.of_below hb⟩
    · rw [if_neg s0] at hres
      have q : ((b.l[i]).side m == 0) = false := by simp [s0]
      rcases ho : (b.l[i]).open with _ | _
      · rw [ho, if_pos rfl] at hres
        rw [ho] at co
        rw [hres]
        clear hres ha hask hx hk hE hst7 s0 hsd ho
        generalize (b.l[i]).side m = sd at *
        replace h := Lib.hid h
        generalize b.l[i] = x at *
        go_enter Tryd.func20, Tryd.ntmps20
        go_wp2_with (first | (go_at_call 46; (with_reducible refine c.mono ?_); rintro e w' ⟨rfl, rfl⟩) | (go_at_call 49; (with_reducible refine cs.mono ?_); rintro e w1 ⟨rfl, hb⟩; obtain ⟨hc, hf⟩ := bcellD hb) | (go_at_call 50; (with_reducible refine (co _).mono ?_); rintro e w2 ⟨rfl, hb2⟩))
        go_ret2
        exact ⟨rfl, ⟨v, mb, D, h.out.below (hb.trans (hb2.mono hb.size))⟩, Kp.of_below (hb.trans (hb2.mono hb.size))⟩
      · rw [ho, if_neg (by simp)] at hres
        rw [ho] at co
        have hand := and_side (x := (b.l[i]).ask) (s := (b.l[i]).side m) (by omega) (by omega)
        by_cases h6 : (b.l[i]).ask = (b.l[i]).side m ∨ (b.l[i]).ask = 3
        · rw [if_pos h6] at hres
          rw [decide_eq_true h6] at hand
          rw [hres]
          clear hres ha hask hx hk hE hst7 s0 hsd ho h6
          generalize (b.l[i]).side m = sd at *
          replace h := Lib.hid h
          generalize b.l[i] = x at *
          go_enter Tryd.func20, Tryd.ntmps20
          go_wp2_with (first | (go_at_call 46; (with_reducible refine c.mono ?_); rintro e w' ⟨rfl, rfl⟩) | (go_at_call 49; (with_reducible refine cs.mono ?_); rintro e w1 ⟨rfl, hb⟩; obtain ⟨hc, hf⟩ := bcellD hb; have hz : g < w1.heap.size := Nat.lt_of_lt_of_le hgl hb.size) | (go_at_call 50; (with_reducible refine (co _).mono ?_); rintro e w2 ⟨rfl, hb2⟩; obtain ⟨hc2, hf2⟩ := bcellD hb2))
          go_ret2
          exact ⟨rfl, ⟨v, mb, D, h.out.below (hb.trans (hb2.mono hb.size))⟩, Kp.of_below (hb.trans (hb2.mono hb.size))⟩
        · rw [if_neg h6] at hres
          rw [decide_eq_false h6] at hand
          rw [hres]
          have hk2 := fun w' (hb : Below w.heap.size w w') => hk w' hb ((b.l[i]).side m) (by omega) (by omega) (by omega)
          clear hres ha hask hx hE s0 hsd ho h6 hk
          generalize (b.l[i]).side m = sd at *
          replace h := Lib.hid h
          generalize b.l[i] = x at *
          replace hk2 := Lib.hid hk2
          replace hst7 := Lib.hid hst7
          go_enter Tryd.func20, Tryd.ntmps20
          go_wp2_with (first | (go_at_call 46; (with_reducible refine c.mono ?_); rintro e w' ⟨rfl, rfl⟩) | (go_at_call 49; (with_reducible refine cs.mono ?_); rintro e w1 ⟨rfl, hb⟩; obtain ⟨hc, hf⟩ := bcellD hb; have hz : g < w1.heap.size := Nat.lt_of_lt_of_le hgl hb.size) | (go_at_call 50; (with_reducible refine (co _).mono ?_); rintro e w2 ⟨rfl, hb2⟩; obtain ⟨hc2, hf2⟩ := bcellD hb2) | (go_at_call 51; (with_reducible refine (hk2.out _ (hb.trans (hb2.mono hb.size))).mono ?_); rintro e w3 ⟨rfl, h3, hK⟩; have hst := hst7.out _ h3; replace h3 := Lib.hid h3))
          go_ret2
          exact ⟨rfl, ⟨v, mb, D, h3.out⟩, (Kp.of_below (hb.trans (hb2.mono hb.size))).trans hK⟩
end
end Go.Proofs.YtflbggehgjllcaaDoor
