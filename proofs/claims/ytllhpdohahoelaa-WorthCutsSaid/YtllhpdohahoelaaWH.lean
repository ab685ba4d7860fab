/- The contracts of worth's Rate, Cut and New. -/
import Derived.Test.YtllhpdohahoelaaWG
namespace Go.Proofs.Ytllhpdohahoelaa
open Go.RowKit
set_option linter.unusedVariables false

/-- by another table, if it may be -/
noncomputable def WM.by (x : WM) (cs : List Cur) : Int × WM := if chkT cs = 0 then (0, ⟨cs, x.nm, x.S⟩) else (1, x)
noncomputable def WM.rate (x : WM) (cur v : Int) : Int × WM := if 0 ≤ cur ∧ cur < x.cs.length then x.by (x.cs.set cur.toNat { cAt x.cs cur.toNat with rate := v }) else (1, x)
noncomputable def WM.cutt (x : WM) (cur v : Int) : Int × WM := if 0 ≤ cur ∧ cur < x.cs.length then x.by (x.cs.set cur.toNat { cAt x.cs cur.toNat with cut := v }) else (1, x)
def ByP (P : Nat → Prop) (b lb : Nat) (r : Int × WM) (w : World) (e : Ending) (w' : World) : Prop := e = .returned (.int .i64 r.1) ∧ WP P w' b lb r.2 ∧ Kp P w w'

set_option maxHeartbeats 2000000 in
theorem rate_any {P : Nat → Prop} {b lb : Nat} {x : WM} (cur v : Int) (w : World) (hW : WP P w b lb x) (hv : In64 v) (hP : ∀ i, w.heap.size ≤ i → P i) :
    Calls Try.prog 28 #[.pointer (some ⟨b, 0, none⟩), .int .i64 cur, .int .i64 v] w (ByP P b lb (x.rate cur v) w) := by
  obtain ⟨gT, cT, gM, cM, h⟩ := hW
  have c0 := h.c0
  have hbl := obj_lt h.obj
  have hMl := h.rows.lt
  have h8 := h.n8
  by_cases hc : 0 ≤ cur ∧ cur < x.cs.length
  · obtain ⟨k, rfl⟩ : ∃ k : Nat, cur = k := ⟨cur.toNat, by omega⟩
    have hk : k < x.cs.length := by omega
    have hC := withRate_any (some ⟨gT, 0, none⟩) x.cs.length cT x.cs k v w h.tab hk (by omega) hv
    have hm : x.rate (k : Int) v = x.by (x.cs.set k { cAt x.cs k with rate := v }) := by unfold WM.rate; rw [if_pos hc]; rfl
    rw [hm]
    generalize x.cs.set k { cAt x.cs k with rate := v } = cs at *
    obtain ⟨R, hR⟩ : ∃ R, x.by cs = R := ⟨_, rfl⟩
    rw [hR]
    replace hR := Lib.hid hR
    replace hC := Lib.hid hC
    replace h := Lib.hid h
    replace hP := Lib.hid hP
    by_cases hok : chkT cs = 0
    · replace hC := Lib.hid (hC.out.mono fun e w1 (h : WithOut cs x.cs.length w e w1) => show ∃ g c, e = .returned (.tuple #[.slice (some ⟨g, 0, none⟩) x.cs.length c, .int .i64 0]) ∧ Tab w1 (some ⟨g, 0, none⟩) x.cs.length cs ∧ w.heap.size ≤ g ∧ g < w1.heap.size ∧ Below w.heap.size w w1 from by
        obtain ⟨hb, h | ⟨_, g, c, h1, h2, h3⟩⟩ := h
        · exact absurd hok h.1
        · refine ⟨g, c, h1, h2, h3, ?_, hb⟩
          obtain ⟨_, _, _, h4⟩ := h2
          obtain ⟨b', off, e', hlt, _⟩ := h4.resolve_left (by omega)
          injection e' with e'
          injection e' with e1 e2
          subst e1; exact hlt)
      replace hok := Lib.hid hok
      go_enter Try.func28, Try.ntmps28
      go_upto_region 2 with (first | (go_at_call 56; (with_reducible refine hC.out.mono ?_); rintro e w1 ⟨g, c, rfl, hT, hg, hgl, hb1⟩))
      have h1 := h.out.below hb1
      have hRk := reckon_any (c := c) w1 h1 hT hok.out hgl (hP.out g hg) (by omega) (by omega)
      replace hRk := Lib.hid hRk
      replace hb1 := Lib.hid hb1
      replace h1 := Lib.hid h1
      replace hT := Lib.hid hT
      go_wp2_with (first | (go_at_call 50; (with_reducible refine hRk.out.mono ?_); rintro e w2 ⟨rfl, hW2, hK2⟩; replace hW2 := Lib.hid hW2; replace hK2 := Lib.hid hK2))
      go_ret
      have eR : R = (0, ⟨cs, x.nm, x.S⟩) := by rw [← hR.out]; exact if_pos hok.out
      rw [eR]
      exact ⟨rfl, hW2.out, (Kp.of_below hb1.out).trans hK2.out⟩
    · replace hC := Lib.hid (hC.out.mono fun e w1 (h : WithOut cs x.cs.length w e w1) => show e = .returned (.tuple #[.slice none 0 0, .int .i64 1]) ∧ Below w.heap.size w w1 from by
        obtain ⟨hb, h | ⟨h1, _⟩⟩ := h
        · exact ⟨h.2, hb⟩
        · exact absurd h1 hok)
      replace hok := Lib.hid hok
      go_enter Try.func28, Try.ntmps28
      go_wp2_with (first | (go_at_call 56; (with_reducible refine hC.out.mono ?_); rintro e w1 ⟨rfl, hb1⟩; replace hb1 := Lib.hid hb1))
      go_ret
      have eR : R = (1, x) := by rw [← hR.out]; exact if_neg hok.out
      rw [eR]
      exact ⟨rfl, ⟨gT, cT, gM, cM, h.out.below hb1.out⟩, Kp.of_below hb1.out⟩
  · have hC := withRate_none (some ⟨gT, 0, none⟩) x.cs.length cT cur v w hc
    have hm : x.rate cur v = (1, x) := by unfold WM.rate; rw [if_neg hc]
    rw [hm]
    replace hC := Lib.hid hC
    replace h := Lib.hid h
    replace hP := Lib.hid hP
    clear hc hm
    go_enter Try.func28, Try.ntmps28
    go_wp2_with (first | (go_at_call 56; (with_reducible refine hC.out.mono ?_); rintro e w1 ⟨rfl, rfl⟩))
    go_ret
    exact ⟨rfl, ⟨gT, cT, gM, cM, h.out⟩, Kp.refl _ _⟩

set_option maxHeartbeats 2000000 in
theorem cutt_any {P : Nat → Prop} {b lb : Nat} {x : WM} (cur v : Int) (w : World) (hW : WP P w b lb x) (hv : In64 v) (hP : ∀ i, w.heap.size ≤ i → P i) :
    Calls Try.prog 25 #[.pointer (some ⟨b, 0, none⟩), .int .i64 cur, .int .i64 v] w (ByP P b lb (x.cutt cur v) w) := by
  obtain ⟨gT, cT, gM, cM, h⟩ := hW
  have c0 := h.c0
  have hbl := obj_lt h.obj
  have hMl := h.rows.lt
  have h8 := h.n8
  by_cases hc : 0 ≤ cur ∧ cur < x.cs.length
  · obtain ⟨k, rfl⟩ : ∃ k : Nat, cur = k := ⟨cur.toNat, by omega⟩
    have hk : k < x.cs.length := by omega
    have hC := withCut_any (some ⟨gT, 0, none⟩) x.cs.length cT x.cs k v w h.tab hk (by omega) hv
    have hm : x.cutt (k : Int) v = x.by (x.cs.set k { cAt x.cs k with cut := v }) := by unfold WM.cutt; rw [if_pos hc]; rfl
    rw [hm]
    generalize x.cs.set k { cAt x.cs k with cut := v } = cs at *
    obtain ⟨R, hR⟩ : ∃ R, x.by cs = R := ⟨_, rfl⟩
    rw [hR]
    replace hR := Lib.hid hR
    replace hC := Lib.hid hC
    replace h := Lib.hid h
    replace hP := Lib.hid hP
    by_cases hok : chkT cs = 0
    · replace hC := Lib.hid (hC.out.mono fun e w1 (h : WithOut cs x.cs.length w e w1) => show ∃ g c, e = .returned (.tuple #[.slice (some ⟨g, 0, none⟩) x.cs.length c, .int .i64 0]) ∧ Tab w1 (some ⟨g, 0, none⟩) x.cs.length cs ∧ w.heap.size ≤ g ∧ g < w1.heap.size ∧ Below w.heap.size w w1 from by
        obtain ⟨hb, h | ⟨_, g, c, h1, h2, h3⟩⟩ := h
        · exact absurd hok h.1
        · refine ⟨g, c, h1, h2, h3, ?_, hb⟩
          obtain ⟨_, _, _, h4⟩ := h2
          obtain ⟨b', off, e', hlt, _⟩ := h4.resolve_left (by omega)
          injection e' with e'
          injection e' with e1 e2
          subst e1; exact hlt)
      replace hok := Lib.hid hok
      go_enter Try.func25, Try.ntmps25
      go_upto_region 2 with (first | (go_at_call 49; (with_reducible refine hC.out.mono ?_); rintro e w1 ⟨g, c, rfl, hT, hg, hgl, hb1⟩))
      have h1 := h.out.below hb1
      have hRk := reckon_any (c := c) w1 h1 hT hok.out hgl (hP.out g hg) (by omega) (by omega)
      replace hRk := Lib.hid hRk
      replace hb1 := Lib.hid hb1
      replace h1 := Lib.hid h1
      replace hT := Lib.hid hT
      go_wp2_with (first | (go_at_call 50; (with_reducible refine hRk.out.mono ?_); rintro e w2 ⟨rfl, hW2, hK2⟩; replace hW2 := Lib.hid hW2; replace hK2 := Lib.hid hK2))
      go_ret
      have eR : R = (0, ⟨cs, x.nm, x.S⟩) := by rw [← hR.out]; exact if_pos hok.out
      rw [eR]
      exact ⟨rfl, hW2.out, (Kp.of_below hb1.out).trans hK2.out⟩
    · replace hC := Lib.hid (hC.out.mono fun e w1 (h : WithOut cs x.cs.length w e w1) => show e = .returned (.tuple #[.slice none 0 0, .int .i64 1]) ∧ Below w.heap.size w w1 from by
        obtain ⟨hb, h | ⟨h1, _⟩⟩ := h
        · exact ⟨h.2, hb⟩
        · exact absurd h1 hok)
      replace hok := Lib.hid hok
      go_enter Try.func25, Try.ntmps25
      go_wp2_with (first | (go_at_call 49; (with_reducible refine hC.out.mono ?_); rintro e w1 ⟨rfl, hb1⟩; replace hb1 := Lib.hid hb1))
      go_ret
      have eR : R = (1, x) := by rw [← hR.out]; exact if_neg hok.out
      rw [eR]
      exact ⟨rfl, ⟨gT, cT, gM, cM, h.out.below hb1.out⟩, Kp.of_below hb1.out⟩
  · have hC := withCut_none (some ⟨gT, 0, none⟩) x.cs.length cT cur v w hc
    have hm : x.cutt cur v = (1, x) := by unfold WM.cutt; rw [if_neg hc]
    rw [hm]
    replace hC := Lib.hid hC
    replace h := Lib.hid h
    replace hP := Lib.hid hP
    clear hc hm
    go_enter Try.func25, Try.ntmps25
    go_wp2_with (first | (go_at_call 49; (with_reducible refine hC.out.mono ?_); rintro e w1 ⟨rfl, rfl⟩))
    go_ret
    exact ⟨rfl, ⟨gT, cT, gM, cM, h.out⟩, Kp.refl _ _⟩
end Go.Proofs.Ytllhpdohahoelaa
