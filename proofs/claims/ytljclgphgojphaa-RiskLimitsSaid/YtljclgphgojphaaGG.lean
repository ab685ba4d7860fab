/- The contract of a guard's New. -/
import Derived.Test.YtljclgphgojphaaGF
namespace Go.Proofs.Ytljclgphgojphaa
open Go.RowKit
set_option linter.unusedVariables false

/-- a guard that was just made -/
def newGM (l : LM) (cs : List Cur) (ls : List LV) : GM := (⟨l, cs, LimM ls, fun _ => false⟩ : GM).judge
/-- what New makes -/
structure MadeG (G' : Nat → Prop) (l : LM) (cs : List Cur) (ls : List LV) (lb : Nat) (gb b gL cL gF cF : Nat) (H S : Nat → Prop) (w w' : World) : Prop where
  gg : GG H S gb lb b gL cL gF cF (newGM l cs ls) w'
  sub : ∀ j, G' j → H j ∧ j ≠ gF
  sup : ∀ j, H j → G' j ∨ w.heap.size ≤ j
  ge : w.heap.size ≤ gF
  fresh : w.heap.size ≤ gb ∧ w.heap.size ≤ gL ∧ ∀ j, S j → w.heap.size ≤ j
def NewG (G' : Nat → Prop) (lb : Nat) (l : LM) (cs : List Cur) (ls : List LV) (w : World) (e : Ending) (w' : World) : Prop :=
  (chkT cs ≠ 0 → e = .returned (.tuple #[.pointer none, .int .i64 (chkT cs)]) ∧ Below w.heap.size w w') ∧
  (chkT cs = 0 → (cs.length ≠ l.nc ∨ limsOk ls l.nm l.nc = false) → e = .returned (.tuple #[.pointer none, .int .i64 1]) ∧ Below w.heap.size w w') ∧
  (chkT cs = 0 → cs.length = l.nc → limsOk ls l.nm l.nc = true → ∃ gb b gL cL gF cF H S, e = .returned (.tuple #[.pointer (some ⟨gb, 0, none⟩), .int .i64 0]) ∧ MadeG G' l cs ls lb gb b gL cL gF cF H S w w') ∧
  Kp (fun j => ¬ G' j) w w'
set_option maxHeartbeats 4000000 in
set_option maxRecDepth 100000 in
theorem newG_any {G' PF : Nat → Prop} (p : Option Addr) (len cap : Nat) (cs : List Cur) (lb : Nat) (l : LM) (q : Option Addr) (n c2 : Nat) (ls : List LV) (w : World) (hT : Tab w p len cs) (hL : PL PF w lb l) (hg : l.Good) (hls : LRow w q n ls)
    (hdis : ∀ j, j < w.heap.size → PF j → ¬ G' j) (hlt : ∀ j, G' j → j < w.heap.size) :
    Calls Try.prog 10 #[.slice p len cap, .pointer (some ⟨lb, 0, none⟩), .slice q n c2] w (NewG G' lb l cs ls w) := by
  have hW := wnew_any (cap := cap) w hT hL hg
  have hnm := hg.ok.nm
  have hnc := hg.ok.nc
  by_cases hc : chkT cs = 0
  · by_cases hl : cs.length = l.nc
    · -- the worths are made
      have hW1 : Calls Try.prog 24 #[.slice p len cap, .pointer (some ⟨lb, 0, none⟩)] w fun e w' => ∃ b, e = .returned (.tuple #[.pointer (some ⟨b, 0, none⟩), .int .i64 0]) ∧ WSt G' lb b l (WM.new cs l) w' ∧ Below w.heap.size w w' := hW.mono fun e w' ⟨_, _, h3, h4⟩ => by
        obtain ⟨b, e1, h5⟩ := h3 hc hl
        exact ⟨b, e1, WSt.made hL hg hdis hlt h5 h4, h4⟩
      have hZ : ∀ wv, Below w.heap.size w wv → Calls Try.prog 25 #[.pointer (some ⟨lb, 0, none⟩)] wv fun e w' => e = .returned (.tuple #[.int .i64 (l.nm : Int), .int .i64 (l.nc : Int)]) ∧ Below wv.heap.size wv w' := fun wv hb => by
        obtain ⟨gB, cB, hLv⟩ := hL
        exact (psize_any wv (hLv.below hb)).mono fun e w' ⟨h1, n1, h2⟩ => ⟨h1, by rw [h2]; exact below_drewN (Below.refl _ _) _⟩
      have hM : ∀ wv, Below w.heap.size w wv → Calls Try.prog 26 #[.slice q n c2, .int .i64 (l.nm : Int), .int .i64 (l.nc : Int)] wv (LimO ls l.nm l.nc wv) := fun wv hb => limitsOf_any q n c2 ls l.nm l.nc wv (hls.kept hb) hnm hnc
      cases hk : limsOk ls l.nm l.nc with
      | false =>
        have hno : ∀ w', Below w.heap.size w w' → NewG G' lb l cs ls w (.returned (.tuple #[.pointer none, .int .i64 1])) w' := fun w' hb => ⟨fun e => absurd hc e, fun _ _ => ⟨rfl, hb⟩, fun _ _ e => (by rw [hk] at e; cases e), Kp.of_below hb⟩
        replace hM : ∀ wv, Below w.heap.size w wv → Calls Try.prog 26 #[.slice q n c2, .int .i64 (l.nm : Int), .int .i64 (l.nc : Int)] wv fun e w' => e = .returned (.tuple #[.slice none 0 0, .int .i64 1]) ∧ Below wv.heap.size wv w' := fun wv hb => (hM wv hb).mono fun e w' ⟨_, h2, h3⟩ => ⟨h2 hk, h3⟩
        replace hW1 := Lib.hid hW1
        replace hZ := Lib.hid hZ
        replace hM := Lib.hid hM
        replace hno := Lib.hid hno
        replace hT := Lib.hid hT
        replace hL := Lib.hid hL
        replace hls := Lib.hid hls
        replace hk := Lib.hid hk
        replace hl := Lib.hid hl
        replace hc := Lib.hid hc
        clear hW
        go_enter Try.func10, Try.ntmps10
        go_upto_region 4 with (first | (go_at_call 24; (with_reducible refine hW1.out.mono ?_); rintro e w1 ⟨b, rfl, hS1, hb1⟩))
        have hZ1 := Lib.hid (hZ.out _ hb1)
        replace hb1 := Lib.hid hb1
        replace hS1 := Lib.hid hS1
        go_upto_region 5 with (first | (go_at_call 25; (with_reducible refine hZ1.out.mono ?_); rintro e w2 ⟨rfl, hb2⟩))
        have hb12 := hb1.out.trans (hb2.mono hb1.out.size)
        have hM2 := Lib.hid (hM.out _ hb12)
        replace hb2 := Lib.hid hb2
        replace hb12 := Lib.hid hb12
        go_wp2_with (first | (go_at_call 26; (with_reducible refine hM2.out.mono ?_); rintro e w3 ⟨rfl, hb3⟩; replace hb3 := Lib.hid hb3))
        go_ret2
        exact hno.out _ (hb12.out.trans (hb3.out.mono hb12.out.size))
      | true =>
        replace hM : ∀ wv, Below w.heap.size w wv → Calls Try.prog 26 #[.slice q n c2, .int .i64 (l.nm : Int), .int .i64 (l.nc : Int)] wv fun e w' => ∃ gL cL, e = .returned (.tuple #[.slice (some ⟨gL, 0, none⟩) l.nm cL, .int .i64 0]) ∧ LR (fun j => wv.heap.size ≤ j) w' gL l.nc l.nm (LimM ls) ∧ wv.heap.size ≤ gL ∧ Below wv.heap.size wv w' := fun wv hb => (hM wv hb).mono fun e w' ⟨h1, _, h3⟩ => by
          obtain ⟨gL, cL, e1, e2, e3⟩ := h1 hk
          exact ⟨gL, cL, e1, e2, e3, h3⟩
        have hmk := make_flags l.nm (by omega)
        -- the guard, before its flags are set
        have hGS : ∀ (b gL cL : Nat) (w1 w2 w3 : World), WSt G' lb b l (WM.new cs l) w1 → Below w.heap.size w w1 → Below w1.heap.size w1 w2 → LR (fun j => w2.heap.size ≤ j) w3 gL l.nc l.nm (LimM ls) → w2.heap.size ≤ gL → Below w2.heap.size w2 w3 →
            GS (fun j => G' j ∨ (w1.heap.size ≤ j ∧ j < w3.heap.size + 2)) (fun j => w2.heap.size ≤ j ∧ j < w3.heap.size) (w3.heap.size + 1) lb b gL cL w3.heap.size l.nm l (WM.new cs l) (LimM ls) (fun _ => false) ((w3.alloc (.cells (zf l.nm) 4)).alloc (.cells (gArr lb b gL cL w3.heap.size l.nm l.nm) 58)) := fun b gL cL w1 w2 w3 hS1 hb1 hb2 hLR hgL hb3 => by
          have hs2 := hb2.size
          have hs3 := hb3.size
          have hb34 : Below w3.heap.size w3 ((w3.alloc (.cells (zf l.nm) 4)).alloc (.cells (gArr lb b gL cL w3.heap.size l.nm l.nm) 58)) := ((Below.refl _ w3).alloc (Nat.le_refl _) _).alloc (by simp) _
          have hb14 : Below w1.heap.size w1 ((w3.alloc (.cells (zf l.nm) 4)).alloc (.cells (gArr lb b gL cL w3.heap.size l.nm l.nm) 58)) := (hb2.trans (hb3.mono hs2)).trans (hb34.mono (by omega))
          have hgl := hLR.lt
          refine ⟨hS1.more hb14 (fun j hj hjj => hjj.resolve_right (by omega)) (fun j hj => ?_), ?_, ?_, ?_, ⟨.inr ⟨by omega, by omega⟩, .inr ⟨by omega, by omega⟩, .inr ⟨by omega, by omega⟩⟩, fun j hj => ⟨.inr ⟨by omega, by omega⟩, by omega⟩, rfl, hl, fun a ha => row_out ha⟩
          · rcases hj with hj | hj
            · have := hS1.lt j hj; have := hb14.size; omega
            · simp; omega
          · have e := heap_alloc_new (w3.alloc (.cells (zf l.nm) 4)) (.cells (gArr lb b gL cL w3.heap.size l.nm l.nm) 58)
            simp only [World.size_alloc] at e
            exact e
          · show LR _ _ gL (WM.new cs l).cs.length l.nm (LimM ls)
            rw [show (WM.new cs l).cs.length = l.nc from hl]
            exact (hLR.weak (fun j hj hs => ⟨hs, hj⟩)).at hb34.size (hb34.block _ hgl) fun j hj _ => hb34.block j hj
          · refine ⟨zf l.nm, ?_, fun m hm => zf_get _ m hm⟩
            exact (Below.heap_alloc _ _ _ (by simp)).trans (heap_alloc_new w3 _)
        have hfin : ∀ (b gL cL : Nat) (w1 w2 w3 w4 : World), WSt G' lb b l (WM.new cs l) w1 → Below w.heap.size w w1 → Below w1.heap.size w1 w2 → w2.heap.size ≤ gL → Below w2.heap.size w2 w3 →
            GS (fun j => G' j ∨ (w1.heap.size ≤ j ∧ j < w3.heap.size + 2)) (fun j => w2.heap.size ≤ j ∧ j < w3.heap.size) (w3.heap.size + 1) lb b gL cL w3.heap.size l.nm l (WM.new cs l) (LimM ls) (fun k => !decide (failV cs l.nm l (LimM ls) (k : Int) [] = 0)) w4 →
            Kp (fun j => ¬ (G' j ∨ (w1.heap.size ≤ j ∧ j < w3.heap.size + 2)) ∨ j = w3.heap.size) ((w3.alloc (.cells (zf l.nm) 4)).alloc (.cells (gArr lb b gL cL w3.heap.size l.nm l.nm) 58)) w4 →
            NewG G' lb l cs ls w (.returned (.tuple #[.pointer (some ⟨w3.heap.size + 1, 0, none⟩), .int .i64 0])) w4 := fun b gL cL w1 w2 w3 w4 hS1 hb1 hb2 hgL hb3 hG hK => by
          have hs1 := hb1.size
          have hs2 := hb2.size
          have hs3 := hb3.size
          have hb04 : Below w.heap.size w ((w3.alloc (.cells (zf l.nm) 4)).alloc (.cells (gArr lb b gL cL w3.heap.size l.nm l.nm) 58)) := (hb1.trans ((hb2.trans (hb3.mono hs2)).mono hs1)).trans ((((Below.refl _ w3).alloc (Nat.le_refl _) _).alloc (by simp) _).mono (by omega))
          refine ⟨fun e => absurd hc e, fun _ e => ?_, fun _ _ _ => ⟨w3.heap.size + 1, b, gL, cL, w3.heap.size, l.nm, (fun j => G' j ∨ (w1.heap.size ≤ j ∧ j < w3.heap.size + 2)), (fun j => w2.heap.size ≤ j ∧ j < w3.heap.size), rfl, ⟨?_, fun j hj => ⟨.inl hj, (by have := hlt j hj; omega)⟩, fun j hj => hj.imp id fun e => (by omega), (by omega), ⟨by omega, by omega, fun j hj => by omega⟩⟩⟩, ?_⟩
          · rcases e with e | e
            · exact absurd hl e
            · rw [hk] at e; cases e
          · have e := flags_judge ⟨l, cs, LimM ls, fun _ => false⟩ hl
            dsimp only at e
            rw [e] at hG
            exact hG
          · refine (Kp.of_below hb04).trans ⟨hK.os, hK.tape, hK.output, hK.size, fun j hj hn => hK.block j hj fun e => ?_⟩
            rcases e with e | e
            · exact hn fun x => e (.inl x)
            · exact hn fun x => by have := hlt j x; omega
        replace hW1 := Lib.hid hW1
        replace hZ := Lib.hid hZ
        replace hM := Lib.hid hM
        replace hT := Lib.hid hT
        replace hL := Lib.hid hL
        replace hls := Lib.hid hls
        replace hk := Lib.hid hk
        replace hl := Lib.hid hl
        replace hc := Lib.hid hc
        replace hGS := Lib.hid hGS
        replace hfin := Lib.hid hfin
        clear hW
        go_enter Try.func10, Try.ntmps10
        go_upto_region 4 with (first | (go_at_call 24; (with_reducible refine hW1.out.mono ?_); rintro e w1 ⟨b, rfl, hS1, hb1⟩))
        have hZ1 := Lib.hid (hZ.out _ hb1)
        replace hb1 := Lib.hid hb1
        replace hS1 := Lib.hid hS1
        go_upto_region 5 with (first | (go_at_call 25; (with_reducible refine hZ1.out.mono ?_); rintro e w2 ⟨rfl, hb2⟩))
        have hb12 := hb1.out.trans (hb2.mono hb1.out.size)
        have hM2 := Lib.hid (hM.out _ hb12)
        replace hb2 := Lib.hid hb2
        replace hb12 := Lib.hid hb12
        go_upto_region 8 with (first | (go_at_call 26; (with_reducible refine hM2.out.mono ?_); rintro e w3 ⟨gL, cL, rfl, hLR, hgL, hb3⟩))
        have hG4 := hGS.out b gL cL w1 w2 w3 hS1.out hb1.out hb2.out hLR hgL hb3
        have hA4 := flagAll_any _ hG4
        have hfin4 := hfin.out b gL cL w1 w2 w3
        unfold gArr at hA4 hfin4
        generalize hv4 : (w3.alloc (.cells (zf l.nm) 4)).alloc (.cells #[.pointer (some ⟨lb, 0, none⟩), .pointer (some ⟨b, 0, none⟩), .slice (some ⟨gL, 0, none⟩) l.nm cL, .slice (some ⟨w3.heap.size, 0, none⟩) l.nm l.nm] 58) = w4 at *
        replace hA4 := Lib.hid hA4
        replace hG4 := Lib.hid hG4
        replace hfin4 := Lib.hid hfin4
        replace hLR := Lib.hid hLR
        replace hb3 := Lib.hid hb3
        replace hgL := Lib.hid hgL
        replace hv4 := Lib.hid hv4
        go_upto_region 9 with (fail)
        rw [hv4.out]
        go_wp2_with (first | (go_at_call 27; (with_reducible refine hA4.out.mono ?_); rintro e w5 ⟨rfl, hG5, hK5⟩; replace hG5 := Lib.hid hG5; replace hK5 := Lib.hid hK5))
        go_ret2
        exact hfin4.out _ hS1.out hb1.out hb2.out hgL.out hb3.out hG5.out hK5.out
    · have hno : ∀ w', Below w.heap.size w w' → NewG G' lb l cs ls w (.returned (.tuple #[.pointer none, .int .i64 1])) w' := fun w' hb => ⟨fun e => absurd hc e, fun _ _ => ⟨rfl, hb⟩, fun _ e => absurd e hl, Kp.of_below hb⟩
      have hW1 : Calls Try.prog 24 #[.slice p len cap, .pointer (some ⟨lb, 0, none⟩)] w fun e w' => e = .returned (.tuple #[.pointer none, .int .i64 1]) ∧ Below w.heap.size w w' := hW.mono fun e w' ⟨_, h2, _, h4⟩ => ⟨h2 hc hl, h4⟩
      replace hW1 := Lib.hid hW1
      replace hno := Lib.hid hno
      replace hT := Lib.hid hT
      replace hL := Lib.hid hL
      replace hls := Lib.hid hls
      replace hl := Lib.hid hl
      replace hc := Lib.hid hc
      clear hW
      go_enter Try.func10, Try.ntmps10
      go_wp2_with (first | (go_at_call 24; (with_reducible refine hW1.out.mono ?_); rintro e w1 ⟨rfl, hb1⟩; replace hb1 := Lib.hid hb1))
      go_ret2
      exact hno.out _ hb1.out
  · have hno : ∀ w', Below w.heap.size w w' → NewG G' lb l cs ls w (.returned (.tuple #[.pointer none, .int .i64 (chkT cs)])) w' := fun w' hb => ⟨fun _ => ⟨rfl, hb⟩, fun e => absurd e hc, fun e => absurd e hc, Kp.of_below hb⟩
    have hW1 : Calls Try.prog 24 #[.slice p len cap, .pointer (some ⟨lb, 0, none⟩)] w fun e w' => e = .returned (.tuple #[.pointer none, .int .i64 (chkT cs)]) ∧ Below w.heap.size w w' := hW.mono fun e w' ⟨h1, _, _, h4⟩ => ⟨h1 hc, h4⟩
    obtain ⟨X, hX⟩ : ∃ X, chkT cs = X := ⟨_, rfl⟩
    rw [hX] at hW1 hno hc
    have hz : (X != 0) = true := by simpa using hc
    replace hW1 := Lib.hid hW1
    replace hno := Lib.hid hno
    replace hT := Lib.hid hT
    replace hL := Lib.hid hL
    replace hls := Lib.hid hls
    replace hc := Lib.hid hc
    replace hX := Lib.hid hX
    clear hW
    go_enter Try.func10, Try.ntmps10
    go_wp2_with (first | (go_at_call 24; (with_reducible refine hW1.out.mono ?_); rintro e w1 ⟨rfl, hb1⟩; replace hb1 := Lib.hid hb1))
    go_ret2
    exact hno.out _ hb1.out
end Go.Proofs.Ytljclgphgojphaa
