/- The contracts of a guard's In, Out, Rate, Cut, Take, Swap, Book.
  The contracts of a guard's Out, endangers, postError, Book. -/
import Derived.Test.YtiehbbhjpcnbnaaGreatGC
namespace Go.Proofs.YtiehbbhjpcnbnaaGreat
open Go.RowKit
set_option linter.unusedVariables false

section
variable {G S : Nat → Prop} {gb lb b gL cL gF cF : Nat}
/-- a guard that is as it tells, in memory -/
def GG (G S : Nat → Prop) (gb lb b gL cL gF cF : Nat) (g : GM) (w : World) : Prop := GS G S gb lb b gL cL gF cF g.l g.x g.L g.fl w
theorem GG.ok {g : GM} {w : World} (h : GG G S gb lb b gL cL gF cF g w) : g.Ok := ⟨h.st.good, h.nc, GS.chk h⟩
/-- what a call of an operation does -/
def DoneG (G S : Nat → Prop) (gb lb b gL cL gF cF : Nat) (r : Int × GM) (w : World) (e : Ending) (w' : World) : Prop := e = .returned (.int .i64 r.1) ∧ GG G S gb lb b gL cL gF cF r.2 w' ∧ Kp (fun j => ¬ G j ∨ j = gF) w w'
theorem fails_V (g : GM) (hc : g.cs.length = g.l.nc) (m : Int) (ps : List Pst) : failV g.cs g.l.nm g.l g.L m ps = g.fails m ps := by
  unfold failV GM.fails; rw [hc]
/-- the worths are of the ledger -/
theorem moved_same (cs : List Cur) (l : LM) (m : Int) : (WM.new cs l).moved l m = WM.new cs l := by
  unfold WM.moved
  split
  · unfold WM.new
    congr 1
    funext a
    dsimp only
    split
    · rename_i e; rw [e]
    · rfl
  · rfl
theorem moved_new {cs : List Cur} {l k : LM} (hl : l.like k) {m : Int} (hr : ∀ j : Nat, (j : Int) ≠ m → k.row j = l.row j) : (WM.new cs l).moved k m = WM.new cs k := by
  unfold WM.moved
  cases hh : (WM.new cs l).has m with
  | true =>
    rw [if_pos rfl]
    obtain ⟨i, rfl, hi⟩ := WM.has_nat hh
    unfold WM.new
    dsimp only
    rw [hl.1]
    congr 1
    funext a
    rw [Int.toNat_natCast]
    by_cases e : a = i
    · rw [if_pos e, e]
    · rw [if_neg e, hr a (by omega)]
  | false =>
    rw [if_neg (by simp)]
    unfold WM.new
    rw [hl.1]
    congr 1
    funext a
    by_cases e : (a : Int) = m
    · have ha : ¬ a < l.nm := fun h => by
        have : (WM.new cs l).has m = true := has_iff.2 ⟨by omega, by show m < (l.nm : Int); omega⟩
        rw [this] at hh; cases hh
      rw [row_out ha, row_out (by rw [hl.1]; exact ha)]
    · rw [hr a e]
theorem flags_judge (g : GM) (hc : g.cs.length = g.l.nc) : (fun k : Nat => !decide (failV g.cs g.l.nm g.l g.L (k : Int) [] = 0)) = g.judge.fl := by
  funext k
  show _ = decide (g.fails (k : Int) [] ≠ 0)
  rw [fails_V g hc]
  by_cases h : g.fails (k : Int) [] = 0
  · simp [h]
  · simp [h]
theorem GG.fails {g : GM} {w : World} (h : GG G S gb lb b gL cL gF cF g w) (m : Int) (p : Option Addr) (len cap : Nat) (ps : List Pst) (hrow : PRowG G w p len ps) (hlen : len ≤ 30) :
    Calls Tryz.prog 71 #[.pointer (some ⟨gb, 0, none⟩), .int .i64 m, .slice p len cap] w fun e w' => e = .returned (.int .i64 (g.fails m ps)) ∧ GG G S gb lb b gL cL gF cF g w' ∧ Kp (fun j => ¬ G j) w w' := by
  have := gfails_any m p len cap ps w h hrow hlen
  rw [show g.x.moved g.l m = g.x from moved_same _ _ _, show failV g.x.cs g.x.nm g.l g.L m ps = g.fails m ps from fails_V g h.nc m ps] at this
  exact this
theorem GG.passes {g : GM} {w : World} (h : GG G S gb lb b gL cL gF cF g w) (m : Int) (p : Option Addr) (len cap : Nat) (ps : List Pst) (hrow : PRowG G w p len ps) (hlen : len ≤ 30) :
    Calls Tryz.prog 46 #[.pointer (some ⟨gb, 0, none⟩), .int .i64 m, .slice p len cap] w fun e w' => e = .returned (.bool (decide (g.fails m ps = 0))) ∧ GG G S gb lb b gL cL gF cF g w' ∧ Kp (fun j => ¬ G j) w w' := by
  have := passes_any m p len cap ps w h hrow hlen
  rw [show g.x.moved g.l m = g.x from moved_same _ _ _, show failV g.x.cs g.x.nm g.l g.L m ps = g.fails m ps from fails_V g h.nc m ps] at this
  exact this
theorem GG.flagged {g : GM} {w : World} (h : GG G S gb lb b gL cL gF cF g w) (m : Int) :
    Calls Tryz.prog 93 #[.pointer (some ⟨gb, 0, none⟩), .int .i64 m] w fun e w' => e = .returned (.bool (g.flagged m)) ∧ w = w' := flagged_any m w h
theorem kp_two {F H : Nat → Prop} {a b c : World} (h : Kp F a b) (k : Kp H b c) (hF : ∀ j, F j → H j) : Kp H a c := (h.mono fun j _ => hF j).trans k
theorem WM.new_out {cs : List Cur} {l : LM} : ∀ a, ¬ a < (WM.new cs l).nm → (WM.new cs l).S a = fun _ => 0 := fun a ha => row_out ha
/-- the ledger was called -/
theorem GG.led {g : GM} {k : LM} {w w' : World} (h : GG G S gb lb b gL cL gF cF g w) (hS : WSt G lb b k g.x w') (hK : Kp (fun j => ¬ G j) w w') (hl : g.l.like k) : GS G S gb lb b gL cL gF cF k g.x g.L g.fl w' := GS.call h hS hK rfl rfl hl h.out

theorem rate_nm (x : WM) (c a : Int) : (x.rate c a).2.nm = x.nm ∧ (x.rate c a).2.S = x.S ∧ (x.rate c a).2.cs.length = x.cs.length := by
  have hb : ∀ cs : List Cur, cs.length = x.cs.length → (x.by cs).2.nm = x.nm ∧ (x.by cs).2.S = x.S ∧ (x.by cs).2.cs.length = x.cs.length := fun cs h => by
    unfold WM.by; split
    · exact ⟨rfl, rfl, h⟩
    · exact ⟨rfl, rfl, rfl⟩
  unfold WM.rate; split
  · exact hb _ (List.length_set ..)
  · exact ⟨rfl, rfl, rfl⟩
theorem cutt_nm (x : WM) (c a : Int) : (x.cutt c a).2.nm = x.nm ∧ (x.cutt c a).2.S = x.S ∧ (x.cutt c a).2.cs.length = x.cs.length := by
  have hb : ∀ cs : List Cur, cs.length = x.cs.length → (x.by cs).2.nm = x.nm ∧ (x.by cs).2.S = x.S ∧ (x.by cs).2.cs.length = x.cs.length := fun cs h => by
    unfold WM.by; split
    · exact ⟨rfl, rfl, h⟩
    · exact ⟨rfl, rfl, rfl⟩
  unfold WM.cutt; split
  · exact hb _ (List.length_set ..)
  · exact ⟨rfl, rfl, rfl⟩
theorem rate_err {x : WM} {c a : Int} (h : (x.rate c a).1 ≠ 0) : (x.rate c a).2 = x := by
  unfold WM.rate at h ⊢
  split
  · rename_i hc
    rw [if_pos hc] at h
    unfold WM.by at h ⊢
    split
    · rename_i h2; rw [if_pos h2] at h; exact absurd rfl h
    · rfl
  · rfl
theorem cutt_err {x : WM} {c a : Int} (h : (x.cutt c a).1 ≠ 0) : (x.cutt c a).2 = x := by
  unfold WM.cutt at h ⊢
  split
  · rename_i hc
    rw [if_pos hc] at h
    unfold WM.by at h ⊢
    split
    · rename_i h2; rw [if_pos h2] at h; exact absurd rfl h
    · rfl
  · rfl
/-- behind a box of a batch of one -/
structure Boxed (G S : Nat → Prop) (gb lb b gL cL gF cF : Nat) (g : GM) (w : World) (H : Nat → Prop) (m c a : Int) (v : World) : Prop where
  gg : GG H S gb lb b gL cL gF cF g v
  row : PRowG H v (some ⟨w.heap.size, 0, none⟩) 1 [⟨m, c, a⟩]
  blw : Below w.heap.size w v
  sub : ∀ j, G j → H j
theorem GG.box {g : GM} {w : World} (h : GG G S gb lb b gL cL gF cF g w) {m c a : Int} (hm : In64 m) (hc : In64 c) (ha : In64 a) : Boxed G S gb lb b gL cL gF cF g w (fun j => G j ∨ j = w.heap.size) m c a (w.alloc (.cells #[.int .i64 m, .int .i64 c, .int .i64 a] 60)) := by
  have hb : Below w.heap.size w (w.alloc (.cells #[.int .i64 m, .int .i64 c, .int .i64 a] 60)) := (Below.refl _ _).alloc (Nat.le_refl _) _
  refine ⟨GS.more h hb (fun j hj => ⟨fun e => e.resolve_right (by omega), .inl⟩) (fun j hj => ?_), ⟨prow_one hm hc ha, .inr ⟨_, 0, rfl, .inr rfl⟩⟩, hb, fun j hj => .inl hj⟩
  rcases hj with hj | rfl
  · exact Nat.lt_of_lt_of_le (h.st.lt j hj) hb.size
  · simp
/-- back from there: what is G's stays -/
theorem GG.back {g g' : GM} {w v w' : World} {H : Nat → Prop} (h : GG G S gb lb b gL cL gF cF g w) (hG : ∀ j, G j → H j) (hb : Below w.heap.size w v) (h' : GG H S gb lb b gL cL gF cF g' w') (hK : Kp (fun j => ¬ H j ∨ j = gF) v w') (hH : ∀ j, H j → G j ∨ w.heap.size ≤ j) : GG G S gb lb b gL cL gF cF g' w' ∧ Kp (fun j => ¬ G j ∨ j = gF) w w' :=
  ⟨GS.less h' hG h.hg fun j hj => (h.hs j hj).1, (Kp.of_below hb).trans ⟨hK.os, hK.tape, hK.output, hK.size, fun j hj hn => hK.block j hj fun e => hn (e.imp (fun e x => e (hG j x)) id)⟩⟩
theorem inn_inE {g : GM} (hg : g.l.Good) {m c a : Int} : g.l.like (g.l.inn m c a).2 ∧ ((g.l.inn m c a).1 ≠ 0 → (g.l.inn m c a).2 = g.l) := (inn_good hg m c a).2
theorem fails_has {g : GM} {m : Int} {ps : List Pst} (h : g.fails m ps = 0) : 0 ≤ m ∧ m < g.l.nm := by
  unfold GM.fails at h
  split at h
  · assumption
  · exact absurd h (by decide)
set_option maxHeartbeats 4000000 in
set_option maxRecDepth 100000 in
theorem gin_any (g : GM) (m c a : Int) (w : World) (h : GG G S gb lb b gL cL gF cF g w) (hm : In64 m) (hc : In64 c) (ha : In64 a) :
    Calls Tryz.prog 19 #[.pointer (some ⟨gb, 0, none⟩), .int .i64 m, .int .i64 c, .int .i64 a] w (DoneG G S gb lb b gL cL gF cF (g.inn m c a) w) := by
  by_cases h1 : a < 1
  · have e1 : g.inn m c a = (1, g) := by unfold GM.inn; rw [if_pos h1]
    rw [e1]
    replace h := Lib.hid h
    go_enter Tryz.func19, Tryz.ntmps19
    go_wp2_with fail
    go_ret
    exact ⟨rfl, h.out, Kp.refl _ _⟩
  have hx := h.box hm hc ha
  have hO := one_any m c a w
  obtain ⟨H, hH⟩ : ∃ H : Nat → Prop, H = fun j => G j ∨ j = w.heap.size := ⟨_, rfl⟩
  rw [← hH] at hx
  have hfin : ∀ (r : Int) (g' : GM) (w' : World), GG H S gb lb b gL cL gF cF g' w' → Kp (fun j => ¬ H j ∨ j = gF) (w.alloc (.cells #[.int .i64 m, .int .i64 c, .int .i64 a] 60)) w' → (r, g') = g.inn m c a → DoneG G S gb lb b gL cL gF cF (g.inn m c a) w (.returned (.int .i64 r)) w' := fun r g' w' h2 hK e => by
    rw [← e]
    obtain ⟨k1, k2⟩ := h.back hx.sub hx.blw h2 hK (fun j hj => by rw [hH] at hj; exact hj.imp id fun e => by omega)
    exact ⟨rfl, k1, k2⟩
  generalize hv : w.alloc (.cells #[.int .i64 m, .int .i64 c, .int .i64 a] 60) = v at *
  clear hH
  have hN := netShort_any m _ 1 1 _ v hx.gg hx.row (by omega)
  rw [show g.x.moved g.l m = g.x from moved_same _ _ _] at hN
  obtain ⟨r1, r2, r3, hR⟩ : ∃ r1 r2 r3, g.x.iff m [⟨m, c, a⟩] = (r1, r2, r3) := ⟨_, _, _, rfl⟩
  rw [hR] at hN
  have hE : g.inE m c a = r3 := by unfold GM.inE; rw [hR]
  replace hN := Lib.hid hN
  replace hx := Lib.hid hx
  replace hv := Lib.hid hv
  replace h := Lib.hid h
  clear hR
  by_cases h3 : r3 = 0
  · subst h3
    by_cases hr : (g.l.inn m c a).1 = 0
    · have hinn : g.inn m c a = (0, ⟨(g.l.inn m c a).2, g.cs, g.L, if (g.after (g.l.inn m c a).2).fails m [] = 0 then upd g.fl m.toNat false else g.fl⟩) := by
        unfold GM.inn; rw [if_neg h1, if_neg (by rw [hE]; simp), if_neg (by rw [hr]; simp)]
      have hl := (inn_inE (m := m) (c := c) (a := a) h.out.ok.good).1
      have hrw := fun (j : Nat) (hj : (j : Int) ≠ m) => inn_rows (l := g.l) m c a hj
      have hLd : ∀ wv, GG H S gb lb b gL cL gF cF g wv → Calls Tryz.prog 44 #[.pointer (some ⟨lb, 0, none⟩), .int .i64 m, .int .i64 c, .int .i64 a] wv fun e w' => e = .returned (.int .i64 0) ∧ GS H S gb lb b gL cL gF cF (g.l.inn m c a).2 g.x g.L g.fl w' ∧ Kp (fun j => ¬ H j) wv w' := fun wv hw => (hw.st.inn m c a ha).mono fun e w' ⟨e1, e2, e3⟩ => ⟨by rw [← hr]; exact e1, hw.led e2 e3 hl, e3⟩
      have hMv : ∀ wv, GS H S gb lb b gL cL gF cF (g.l.inn m c a).2 g.x g.L g.fl wv → Calls Tryz.prog 45 #[.pointer (some ⟨b, 0, none⟩), .int .i64 m] wv fun e w' => e = .returned (.tuple #[]) ∧ GG H S gb lb b gL cL gF cF (g.after (g.l.inn m c a).2) w' ∧ Kp (fun j => ¬ H j) wv w' := fun wv hw => (hw.st.moved m).mono fun e w' ⟨e1, e2, e3⟩ => ⟨e1, by
        have hx2 := hw.moved m e2 e3
        rw [show g.x.moved (g.l.inn m c a).2 m = WM.new g.cs (g.l.inn m c a).2 from moved_new hl hrw] at hx2
        exact hx2, e3⟩
      generalize (g.l.inn m c a).2 = k at *
      have hPs : ∀ wv, GG H S gb lb b gL cL gF cF (g.after k) wv → _ := fun wv hw => hw.passes m none 0 0 [] (PRowG.nil H wv) (by omega)
      have hhas := fails_has (g := g.after k) (m := m) (ps := [])
      have hnm : (g.after k).l.nm = g.l.nm := hl.1
      replace hLd := Lib.hid hLd
      replace hMv := Lib.hid hMv
      replace hl := Lib.hid hl
      clear hrw
      by_cases hz : (g.after k).fails m [] = 0
      · rw [if_pos hz] at hinn
        obtain ⟨i, rfl, hi⟩ : ∃ i : Nat, m = i ∧ i < (g.after k).l.nm := ⟨m.toNat, by have := hhas hz; omega, by have := hhas hz; omega⟩
        rw [Int.toNat_natCast] at hinn
        rw [show decide ((g.after k).fails (i : Int) [] = 0) = true from by simpa using hz] at hPs
        have hi16 : (i : Int) < ((g.after k).l.nm : Int) := by omega
        have hnm16 : ∀ wv, GG H S gb lb b gL cL gF cF (g.after k) wv → (g.after k).l.nm ≤ 16 := fun wv hw => GS.nm16 hw
        replace hPs := Lib.hid hPs
        replace hfin := Lib.hid hfin
        replace hE := Lib.hid hE
        replace hz := Lib.hid hz
        replace hinn := Lib.hid hinn
        replace hhas := Lib.hid hhas
        replace hnm := Lib.hid hnm
        replace hr := Lib.hid hr
        replace hnm16 := Lib.hid hnm16
        go_enter Tryz.func19, Tryz.ntmps19
        go_upto_region 3 with fail
        go_upto_region 4 with (first | (go_at_call 43; (with_reducible refine hO.mono ?_); rintro e w0 ⟨rfl, rfl⟩) | (go_at_call 42; (with_reducible refine hN.out.mono ?_); rintro e w1 ⟨rfl, hS1, hK1⟩))
        have c0 := GS.c0 hS1
        have hC := Lib.hid (hLd.out _ hS1)
        replace hS1 := Lib.hid hS1
        replace hK1 := Lib.hid hK1
        go_upto_region 7 with (first | (go_at_call 44; (with_reducible refine hC.out.mono ?_); rintro e w2 ⟨rfl, hS2, hK2⟩))
        have c1 := GS.c1 hS2
        have hD := Lib.hid (hMv.out _ hS2)
        replace hS2 := Lib.hid hS2
        replace hK2 := Lib.hid hK2
        go_upto_region 10 with (first | (go_at_call 45; (with_reducible refine hD.out.mono ?_); rintro e w3 ⟨rfl, hS3, hK3⟩))
        have hF := Lib.hid (hPs.out _ hS3)
        replace hS3 := Lib.hid hS3
        replace hK3 := Lib.hid hK3
        go_upto_region 11 with (first | (go_at_call 46; (with_reducible refine hF.out.mono ?_); rintro e w4 ⟨rfl, hS4, hK4⟩))
        have c3 := GS.c3 hS4
        have hfz := hS4.fr.free i
        have hcc := hS4.fr.cell (m := i) hi
        have hS5 : GG H S gb lb b gL cL gF cF ⟨k, g.cs, g.L, upd g.fl i false⟩ (w4.setCell ⟨gF, i, none⟩ (.bool false)) := GS.setF hS4 hi false
        replace hS5 := Lib.hid hS5
        replace hS4 := Lib.hid hS4
        replace hK4 := Lib.hid hK4
        go_wp2_with fail
        go_ret
        refine hfin.out _ _ _ hS5.out ?_ hinn.out.symm
        exact ((((hK1.out.trans hK2.out).trans hK3.out).trans hK4.out).mono fun j _ e => .inl e).trans (Kp.setCell (F := fun j => ¬ H j ∨ j = gF) (Kp.refl _ w4) (p := ⟨gF, i, none⟩) (.inr rfl |> .inl) _)
      · rw [if_neg hz] at hinn
        rw [show decide ((g.after k).fails m [] = 0) = false from by simpa using hz] at hPs
        replace hPs := Lib.hid hPs
        replace hfin := Lib.hid hfin
        replace hE := Lib.hid hE
        replace hz := Lib.hid hz
        replace hinn := Lib.hid hinn
        replace hhas := Lib.hid hhas
        replace hnm := Lib.hid hnm
        replace hr := Lib.hid hr
        go_enter Tryz.func19, Tryz.ntmps19
        go_upto_region 3 with fail
        go_upto_region 4 with (first | (go_at_call 43; (with_reducible refine hO.mono ?_); rintro e w0 ⟨rfl, rfl⟩) | (go_at_call 42; (with_reducible refine hN.out.mono ?_); rintro e w1 ⟨rfl, hS1, hK1⟩))
        have c0 := GS.c0 hS1
        have hC := Lib.hid (hLd.out _ hS1)
        replace hS1 := Lib.hid hS1
        replace hK1 := Lib.hid hK1
        go_upto_region 7 with (first | (go_at_call 44; (with_reducible refine hC.out.mono ?_); rintro e w2 ⟨rfl, hS2, hK2⟩))
        have c1 := GS.c1 hS2
        have hD := Lib.hid (hMv.out _ hS2)
        replace hS2 := Lib.hid hS2
        replace hK2 := Lib.hid hK2
        go_upto_region 10 with (first | (go_at_call 45; (with_reducible refine hD.out.mono ?_); rintro e w3 ⟨rfl, hS3, hK3⟩))
        have hF := Lib.hid (hPs.out _ hS3)
        replace hS3 := Lib.hid hS3
        replace hK3 := Lib.hid hK3
        go_wp2_with (first | (go_at_call 46; (with_reducible refine hF.out.mono ?_); rintro e w4 ⟨rfl, hS4, hK4⟩; replace hS4 := Lib.hid hS4; replace hK4 := Lib.hid hK4))
        go_ret
        refine hfin.out _ (g.after k) _ hS4.out ?_ hinn.out.symm
        exact (((hK1.out.trans hK2.out).trans hK3.out).trans hK4.out).mono fun j _ e => .inl e
    · have hinn : g.inn m c a = ((g.l.inn m c a).1, g) := by
        unfold GM.inn; rw [if_neg h1, if_neg (by rw [hE]; simp), if_pos hr]
      have hle := (inn_inE (m := m) (c := c) (a := a) h.out.ok.good).2 hr
      have hLd : ∀ wv, GG H S gb lb b gL cL gF cF g wv → Calls Tryz.prog 44 #[.pointer (some ⟨lb, 0, none⟩), .int .i64 m, .int .i64 c, .int .i64 a] wv fun e w' => e = .returned (.int .i64 (g.l.inn m c a).1) ∧ GG H S gb lb b gL cL gF cF g w' ∧ Kp (fun j => ¬ H j) wv w' := fun wv hw => (hw.st.inn m c a ha).mono fun e w' ⟨e1, e2, e3⟩ => ⟨e1, by
        have := hw.led e2 e3 (by rw [hle]; exact like_refl _)
        dsimp only at this
        rw [hle] at this
        exact this, e3⟩
      generalize (g.l.inn m c a).1 = r at *
      have hrz : (r != 0) = true := by simpa using hr
      replace hLd := Lib.hid hLd
      replace hfin := Lib.hid hfin
      replace hE := Lib.hid hE
      replace hinn := Lib.hid hinn
      replace hle := Lib.hid hle
      replace hr := Lib.hid hr
      go_enter Tryz.func19, Tryz.ntmps19
      go_upto_region 3 with fail
      go_upto_region 4 with (first | (go_at_call 43; (with_reducible refine hO.mono ?_); rintro e w0 ⟨rfl, rfl⟩) | (go_at_call 42; (with_reducible refine hN.out.mono ?_); rintro e w1 ⟨rfl, hS1, hK1⟩))
      have c0 := GS.c0 hS1
      have hC := Lib.hid (hLd.out _ hS1)
      replace hS1 := Lib.hid hS1
      replace hK1 := Lib.hid hK1
      go_wp2_with (first | (go_at_call 44; (with_reducible refine hC.out.mono ?_); rintro e w2 ⟨rfl, hS2, hK2⟩; replace hS2 := Lib.hid hS2; replace hK2 := Lib.hid hK2))
      go_ret
      refine hfin.out _ g _ hS2.out ?_ hinn.out.symm
      exact (hK1.out.trans hK2.out).mono fun j _ e => .inl e
  · have hinn : g.inn m c a = (r3, g) := by unfold GM.inn; rw [if_neg h1, hE, if_pos h3]
    have hrz : (r3 != 0) = true := by simpa using h3
    replace hfin := Lib.hid hfin
    replace hE := Lib.hid hE
    replace hinn := Lib.hid hinn
    replace h3 := Lib.hid h3
    go_enter Tryz.func19, Tryz.ntmps19
    go_upto_region 3 with fail
    go_wp2_with (first | (go_at_call 43; (with_reducible refine hO.mono ?_); rintro e w0 ⟨rfl, rfl⟩) | (go_at_call 42; (with_reducible refine hN.out.mono ?_); rintro e w1 ⟨rfl, hS1, hK1⟩; replace hS1 := Lib.hid hS1; replace hK1 := Lib.hid hK1))
    go_ret
    refine hfin.out _ g _ hS1.out ?_ hinn.out.symm
    exact hK1.out.mono fun j _ e => .inl e
end
end Go.Proofs.YtiehbbhjpcnbnaaGreat
namespace Go.Proofs.YtiehbbhjpcnbnaaGreat
open Go.RowKit
set_option linter.unusedVariables false

section
variable {G S : Nat → Prop} {gb lb b gL cL gF cF : Nat}
theorem out_like {g : GM} (hg : g.l.Good) {m c a : Int} : g.l.like (g.l.out m c a).2 ∧ ((g.l.out m c a).1 ≠ 0 → (g.l.out m c a).2 = g.l) := (out_good hg m c a).2
theorem has_two {x : WM} {l : LM} (h1 : x.nm = l.nm) (h2 : x.cs.length = l.nc) (m c : Int) : l.has m c = (x.has m && (decide (0 ≤ c) && decide (c < x.cs.length))) := by
  unfold LM.has WM.has
  rw [h1, h2]
  simp [Bool.decide_and, Bool.and_assoc]
theorem retB (a b : Bool) (h : a = b) : Ending.returned (.bool a) = .returned (.bool b) := by rw [h]
set_option maxHeartbeats 2000000 in
theorem postError_any (g : GM) (p : Option Addr) (len cap : Nat) (ps : List Pst) (w : World) (h : GG G S gb lb b gL cL gF cF g w) (hrow : PRow w p len ps) (hlen : len ≤ 30) :
    Calls Tryz.prog 63 #[.pointer (some ⟨gb, 0, none⟩), .slice p len cap] w fun e w' => e = .returned (.int .i64 (g.l.post ps).1) ∧ Below w.heap.size w w' := by
  have c0 := GS.c0 h
  have hg := h.st.good
  obtain ⟨P, gB, cB, hP⟩ := h.st.pl
  have cT := ptext_any w hP hg
  have hsz : ∀ (s : ByteArray), sv g.l.text = .string s → s.size ≤ 100000 := fun s hs => by
    have h1 : s = ⟨g.l.text.toArray⟩ := by unfold sv at hs; injection hs with hs; exact hs.symm
    have h2 := text_length g.l
    have h3 := hg.ok.nm.2
    have h4 := hg.ok.nc.2
    rw [h1, ← bl_length, bl_mk, h2]
    have : 8 * g.l.nc * (1 + g.l.nm) ≤ 64 * 17 := Nat.mul_le_mul (by omega) (by omega)
    omega
  obtain ⟨s, hs⟩ : ∃ s, sv g.l.text = .string s := ⟨_, rfl⟩
  have hbl : bl s = g.l.text := by unfold sv at hs; injection hs with hs; rw [← hs, bl_mk]
  have hs2 := hsz s hs
  rw [hs] at cT
  have cR : ∀ wv, Calls Tryz.prog 10 #[.string s] wv fun e w' => ∃ b2, e = .returned (.tuple #[.pointer (some ⟨b2, 0, none⟩), .int .i64 0]) ∧ PL (fun j => wv.heap.size ≤ j) w' b2 g.l ∧ Below wv.heap.size wv w' := fun wv => by
    refine (pread_any s wv hs2).mono ?_
    rintro e w' ⟨h1, _, h3⟩
    obtain ⟨b2, e1, e2⟩ := h1 g.l (by rw [hbl]; exact read_text hg)
    exact ⟨b2, e1, e2, h3⟩
  have cP : ∀ (b2 : Nat) (wa wv : World), PL (fun j => wa.heap.size ≤ j) wv b2 g.l → wa.heap.size ≤ wv.heap.size → PRow wv p len ps → Calls Tryz.prog 16 #[.pointer (some ⟨b2, 0, none⟩), .slice p len cap] wv fun e w' => e = .returned (.int .i64 (g.l.post ps).1) ∧ Below wa.heap.size wv w' := fun b2 wa wv hL hle hr => by
    refine (post_any _ b2 g.l p len cap ps wv hL hg hr hlen (fun i hi => by show _ ≤ _; omega)).mono ?_
    rintro e w' ⟨h1, _, h3⟩
    exact ⟨h1, h3.below hle fun j hj e => by omega⟩
  generalize (g.l.post ps).1 = r at *
  clear hs hbl hs2 hsz hP
  replace cT := Lib.hid cT
  replace cR := Lib.hid cR
  replace cP := Lib.hid cP
  replace hrow := Lib.hid hrow
  replace h := Lib.hid h
  replace hg := Lib.hid hg
  go_enter Tryz.func63, Tryz.ntmps63
  go_upto_region 4 with (first | (go_at_call 11; (with_reducible refine cT.out.mono ?_); rintro e w1 ⟨rfl, hb1⟩; replace hb1 := Lib.hid hb1) | (go_at_call 10; (with_reducible refine (cR.out _).mono ?_); rintro e w2 ⟨b2, rfl, hL2, hb2⟩; replace hL2 := Lib.hid hL2; replace hb2 := Lib.hid hb2))
  have hb12 := hb1.out.trans (hb2.out.mono hb1.out.size)
  have cP2 := Lib.hid (cP.out b2 _ _ hL2.out hb2.out.size (hrow.out.kept hb12))
  replace hb12 := Lib.hid hb12
  go_wp2_with (first | (go_at_call 16; (with_reducible refine cP2.out.mono ?_); rintro e w3 ⟨rfl, hb3⟩; replace hb3 := Lib.hid hb3))
  go_ret
  exact ⟨rfl, hb12.out.trans (hb3.out.mono hb1.out.size)⟩

/-- endangers' way -/
structure EDS (G S : Nat → Prop) (gb lb b gL cL gF cF : Nat) (g : GM) (ps : List Pst) (w : World) (k : Nat) (wr : World) : Prop where
  gg : GG G S gb lb b gL cL gF cF g wr
  kp : Kp (fun j => ¬ G j) w wr
  no : ∀ j, j < k → g.bad ps j = false
theorem any_range_no {n : Nat} {f : Nat → Bool} (h : ∀ j, j < n → f j = false) : (List.range n).any f = false := by
  rw [List.any_eq_false]
  intro j hj
  rw [h j (List.mem_range.1 hj)]
  decide
theorem any_range_yes {n k : Nat} {f : Nat → Bool} (hk : k < n) (h : f k = true) : (List.range n).any f = true := List.any_eq_true.2 ⟨k, List.mem_range.2 hk, h⟩
set_option maxHeartbeats 4000000 in
set_option maxRecDepth 100000 in
theorem endangers_any (g : GM) (p : Option Addr) (len cap : Nat) (ps : List Pst) (w : World) (h : GG G S gb lb b gL cL gF cF g w) (hrow : PRowG G w p len ps) (hlen : len ≤ 30) :
    Calls Tryz.prog 62 #[.pointer (some ⟨gb, 0, none⟩), .slice p len cap] w fun e w' => e = .returned (.bool (g.ends ps)) ∧ GG G S gb lb b gL cL gF cF g w' ∧ Kp (fun j => ¬ G j) w w' := by
  have hM := members_any w h
  have h16 := GS.nm16 h
  have hn : g.x.nm = g.l.nm := rfl
  rw [hn] at hM h16
  have hS0 : EDS G S gb lb b gL cL gF cF g ps w 0 w := ⟨h, Kp.refl _ _, fun j hj => by omega⟩
  obtain ⟨X, hX⟩ : ∃ X, g.ends ps = X := ⟨_, rfl⟩
  rw [hX]
  replace hX := Lib.hid hX
  replace hM := Lib.hid hM
  replace hS0 := Lib.hid hS0
  replace h := Lib.hid h
  replace hrow := Lib.hid hrow
  clear hn
  go_enter Tryz.func62, Tryz.ntmps62
  go_upto_region 2 with (first | (go_at_call 64; (with_reducible refine hM.out.mono ?_); rintro e w1 ⟨rfl, rfl⟩))
  go_loopw [8] (fun i wr => ∃ k : Nat, k ≤ g.l.nm ∧ i = .int .i64 (k : Int) ∧ Hid (EDS G S gb lb b gL cL gF cF g ps w k wr)) (fun i _ => g.l.nm - (intOf i).toNat)
  case atStart => exact ⟨0, by omega, rfl, hS0⟩
  case round =>
    obtain ⟨k, hk, rfl, hS⟩ := hrel
    by_cases hkl : k < g.l.nm
    · have hkz : (k : Int) < (g.l.nm : Int) := by omega
      have hT := hS.out
      have hr1 := hrow.out.kp hT.kp
      have hP := part_any (k : Int) p len cap ps wr hr1.1 (by omega)
      rw [partI_nat] at hP
      have hF : ∀ wv, Below wr.heap.size wr wv → Calls Tryz.prog 93 #[.pointer (some ⟨gb, 0, none⟩), .int .i64 (k : Int)] wv fun e w' => e = .returned (.bool (g.flagged (k : Int))) ∧ wv = w' := fun wv hb => GG.flagged (GS.below hT.gg hb) (k : Int)
      have hQ : ∀ wv, Below wr.heap.size wr wv → Calls Tryz.prog 46 #[.pointer (some ⟨gb, 0, none⟩), .int .i64 (k : Int), .slice p len cap] wv fun e w' => e = .returned (.bool (decide (g.fails (k : Int) ps = 0))) ∧ GG G S gb lb b gL cL gF cF g w' ∧ Kp (fun j => ¬ G j) w w' := fun wv hb => (GG.passes (GS.below hT.gg hb) (k : Int) p len cap ps (hr1.kp (Kp.of_below hb)) hlen).mono fun e w' ⟨e1, e2, e3⟩ => ⟨e1, e2, (hT.kp.trans (Kp.of_below hb)).trans e3⟩
      have hbad : g.bad ps k = (partB k ps && (g.flagged (k : Int) || decide (g.fails (k : Int) ps ≠ 0))) := rfl
      have hnext : ∀ wv, GG G S gb lb b gL cL gF cF g wv → Kp (fun j => ¬ G j) w wv → g.bad ps k = false → EDS G S gb lb b gL cL gF cF g ps w (k + 1) wv := fun wv h1 h2 h3 => ⟨h1, h2, fun j hj => by
        by_cases e : j = k
        · subst e; exact h3
        · exact hT.no j (by omega)⟩
      have hyes : g.bad ps k = true → X = true := fun e => by rw [← hX.out]; exact any_range_yes hkl e
      generalize partB k ps = B1 at *
      generalize g.flagged (k : Int) = B2 at *
      generalize g.fails (k : Int) ps = V at *
      replace hF := Lib.hid hF
      replace hQ := Lib.hid hQ
      replace hT := Lib.hid hT
      replace hr1 := Lib.hid hr1
      replace hnext := Lib.hid hnext
      replace hP := Lib.hid hP
      replace hyes := Lib.hid hyes
      cases B1 with
      | false =>
        have hb0 : g.bad ps k = false := by rw [hbad]; rfl
        replace hbad := Lib.hid hbad
        replace hb0 := Lib.hid hb0
        go_upto_region 5 with (first | (go_at_call 65; (with_reducible refine hP.out.mono ?_); rintro e w2 ⟨rfl, hb2⟩))
        have hS2 := hnext.out _ (GS.below hT.out.gg hb2) (hT.out.kp.trans (Kp.of_below hb2)) hb0.out
        replace hS2 := Lib.hid hS2
        go_wp2_with fail
        go_roundw
        case rel => exact ⟨k + 1, by omega, by go_num, hS2⟩
        case measure => simp [intOf]; omega
      | true =>
        cases B2 with
        | true =>
          have hX1 : X = true := hyes.out (by rw [hbad]; rfl)
          subst hX1
          replace hbad := Lib.hid hbad
          go_upto_region 4 with (fail)
          go_wp2_with (first | (go_at_call 65; (with_reducible refine hP.out.mono ?_); rintro e w2 ⟨rfl, hb2⟩; replace hF := Lib.hid (hF.out _ hb2); replace hb2 := Lib.hid hb2) | (go_at_call 93; (with_reducible refine hF.out.mono ?_); rintro e w3 ⟨rfl, rfl⟩))
          go_ret
          exact ⟨rfl, GS.below hT.out.gg hb2.out, hT.out.kp.trans (Kp.of_below hb2.out)⟩
        | false =>
          by_cases hV : V = 0
          · have hb0 : g.bad ps k = false := by rw [hbad, hV]; rfl
            rw [show decide (V = 0) = true from by simpa using hV] at hQ
            replace hbad := Lib.hid hbad
            replace hb0 := Lib.hid hb0
            replace hV := Lib.hid hV
            go_upto_region 4 with (fail)
            go_upto_region 5 with (first | (go_at_call 65; (with_reducible refine hP.out.mono ?_); rintro e w2 ⟨rfl, hb2⟩; replace hF := Lib.hid (hF.out _ hb2); replace hQ := Lib.hid (hQ.out _ hb2); replace hb2 := Lib.hid hb2) | (go_at_call 93; (with_reducible refine hF.out.mono ?_); rintro e w3 ⟨rfl, rfl⟩) | (go_at_call 46; (with_reducible refine hQ.out.mono ?_); rintro e w4 ⟨rfl, hG4, hK4⟩))
            have hS2 := hnext.out _ hG4 hK4 hb0.out
            replace hS2 := Lib.hid hS2
            replace hG4 := Lib.hid hG4
            replace hK4 := Lib.hid hK4
            go_wp2_with fail
            go_roundw
            case rel => exact ⟨k + 1, by omega, by go_num, hS2⟩
            case measure => simp [intOf]; omega
          · have hX1 : X = true := hyes.out (by rw [hbad]; simpa using hV)
            subst hX1
            rw [show decide (V = 0) = false from by simpa using hV] at hQ
            replace hbad := Lib.hid hbad
            replace hV := Lib.hid hV
            go_upto_region 4 with (fail)
            go_wp2_with (first | (go_at_call 65; (with_reducible refine hP.out.mono ?_); rintro e w2 ⟨rfl, hb2⟩; replace hF := Lib.hid (hF.out _ hb2); replace hQ := Lib.hid (hQ.out _ hb2); replace hb2 := Lib.hid hb2) | (go_at_call 93; (with_reducible refine hF.out.mono ?_); rintro e w3 ⟨rfl, rfl⟩) | (go_at_call 46; (with_reducible refine hQ.out.mono ?_); rintro e w4 ⟨rfl, hG4, hK4⟩; replace hG4 := Lib.hid hG4; replace hK4 := Lib.hid hK4))
            go_ret
            exact ⟨rfl, hG4.out, hK4.out⟩
    · obtain rfl : k = g.l.nm := by omega
      have hkz : ¬ (g.l.nm : Int) < (g.l.nm : Int) := by omega
      have hX0 : X = false := by rw [← hX.out]; exact any_range_no hS.out.no
      subst hX0
      go_wp2_with fail
      go_ret
      exact ⟨rfl, hS.out.gg, hS.out.kp⟩

/-- Book's way behind the ledger's: k members' worths are taken -/
structure BKS (G S : Nat → Prop) (gb lb b gL cL gF cF : Nat) (g : GM) (l : LM) (w : World) (k : Nat) (wr : World) : Prop where
  gs : GS G S gb lb b gL cL gF cF l (g.x.all l k) g.L g.fl wr
  kp : Kp (fun j => ¬ G j) w wr
theorem all_skip (x : WM) (l : LM) {k : Nat} (h : l.row k = x.S k) : x.all l k = x.all l (k + 1) := by
  unfold WM.all
  congr 1
  funext a
  by_cases e : a < k
  · rw [if_pos e, if_pos (by omega)]
  · rw [if_neg e]
    by_cases e2 : a = k
    · subst e2; rw [if_pos (by omega), h]
    · rw [if_neg (by omega)]
theorem all_new {cs : List Cur} {l k : LM} (hl : l.like k) : (WM.new cs l).all k l.nm = WM.new cs k := by
  unfold WM.all WM.new
  rw [hl.1]
  congr 1
  funext a
  by_cases ha : a < l.nm
  · rw [if_pos ha]
  · rw [if_neg ha]
    show l.row a = k.row a
    rw [row_out ha, row_out (by rw [hl.1]; exact ha)]
set_option maxHeartbeats 4000000 in
set_option maxRecDepth 100000 in
theorem gbook_any (g : GM) (p : Option Addr) (len cap : Nat) (ps : List Pst) (w : World) (h : GG G S gb lb b gL cL gF cF g w) (hrow : PRowG G w p len ps) (hlen : len ≤ 30) :
    Calls Tryz.prog 40 #[.pointer (some ⟨gb, 0, none⟩), .slice p len cap] w (DoneG G S gb lb b gL cL gF cF (g.book ps) w) := by
  have hE := endangers_any g p len cap ps w h hrow hlen
  have hPE : ∀ wv, GG G S gb lb b gL cL gF cF g wv → Kp (fun j => ¬ G j) w wv → Calls Tryz.prog 63 #[.pointer (some ⟨gb, 0, none⟩), .slice p len cap] wv fun e w' => e = .returned (.int .i64 (g.l.post ps).1) ∧ Below wv.heap.size wv w' := fun wv hw hk => postError_any g p len cap ps wv hw (hrow.kp hk).1 hlen
  have h16 := GS.nm16 h
  have hnx : g.x.nm = g.l.nm := rfl
  rw [hnx] at h16
  cases hen : g.ends ps with
  | true =>
    rw [hen] at hE
    by_cases hr : (g.l.post ps).1 = 0
    · have e1 : g.book ps = (10, g) := by unfold GM.book; rw [if_pos hen, if_neg (by rw [hr]; simp)]
      rw [e1]
      rw [hr] at hPE
      replace hE := Lib.hid hE
      replace hPE := Lib.hid hPE
      replace h := Lib.hid h
      replace hrow := Lib.hid hrow
      replace hr := Lib.hid hr
      replace e1 := Lib.hid e1
      replace hen := Lib.hid hen
      clear hnx
      go_enter Tryz.func40, Tryz.ntmps40
      go_upto_region 2 with (first | (go_at_call 62; (with_reducible refine hE.out.mono ?_); rintro e w1 ⟨rfl, hG1, hK1⟩))
      have hPE1 := Lib.hid (hPE.out _ hG1 hK1)
      replace hG1 := Lib.hid hG1
      replace hK1 := Lib.hid hK1
      go_wp2_with (first | (go_at_call 63; (with_reducible refine hPE1.out.mono ?_); rintro e w2 ⟨rfl, hb2⟩; replace hb2 := Lib.hid hb2))
      go_ret
      exact ⟨rfl, GS.below hG1.out hb2.out, (hK1.out.trans (Kp.of_below hb2.out)).mono fun j _ e => .inl e⟩
    · have e1 : g.book ps = ((g.l.post ps).1, g) := by unfold GM.book; rw [if_pos hen, if_pos hr]
      rw [e1]
      generalize (g.l.post ps).1 = r at *
      have hrz : (r != 0) = true := by simpa using hr
      replace hE := Lib.hid hE
      replace hPE := Lib.hid hPE
      replace h := Lib.hid h
      replace hrow := Lib.hid hrow
      replace hr := Lib.hid hr
      replace e1 := Lib.hid e1
      replace hen := Lib.hid hen
      clear hnx
      go_enter Tryz.func40, Tryz.ntmps40
      go_upto_region 2 with (first | (go_at_call 62; (with_reducible refine hE.out.mono ?_); rintro e w1 ⟨rfl, hG1, hK1⟩))
      have hPE1 := Lib.hid (hPE.out _ hG1 hK1)
      replace hG1 := Lib.hid hG1
      replace hK1 := Lib.hid hK1
      go_wp2_with (first | (go_at_call 63; (with_reducible refine hPE1.out.mono ?_); rintro e w2 ⟨rfl, hb2⟩; replace hb2 := Lib.hid hb2))
      go_ret
      exact ⟨rfl, GS.below hG1.out hb2.out, (hK1.out.trans (Kp.of_below hb2.out)).mono fun j _ e => .inl e⟩
  | false =>
    rw [hen] at hE
    have hpg := (post_good h.ok.good ps).2
    have hprw := fun k => post_rows h.ok.good (ps := ps) (k := k)
    have e1 : g.book ps = ((g.l.post ps).1, g.after (g.l.post ps).2) := by unfold GM.book; rw [if_neg (by rw [hen]; decide)]
    rw [e1]
    have hLd : ∀ wv, GG G S gb lb b gL cL gF cF g wv → Kp (fun j => ¬ G j) w wv → Calls Tryz.prog 16 #[.pointer (some ⟨lb, 0, none⟩), .slice p len cap] wv fun e w' => e = .returned (.int .i64 (g.l.post ps).1) ∧ GS G S gb lb b gL cL gF cF (g.l.post ps).2 g.x g.L g.fl w' ∧ Kp (fun j => ¬ G j) wv w' := fun wv hw hk => (hw.st.post p len cap ps (hrow.kp hk).1 hlen).mono fun e w' ⟨e1, e2, e3⟩ => ⟨e1, hw.led e2 e3 hpg.1, e3⟩
    have hsame : ∀ wv, (g.l.post ps).1 ≠ 0 → GS G S gb lb b gL cL gF cF (g.l.post ps).2 g.x g.L g.fl wv → GG G S gb lb b gL cL gF cF (g.after (g.l.post ps).2) wv := fun wv e hw => by
      have e2 := hpg.2 e
      rw [e2] at hw ⊢
      exact hw
    have hlk := hpg.1
    generalize (g.l.post ps).1 = r at *
    generalize (g.l.post ps).2 = k0 at *
    clear hpg
    replace hE := Lib.hid hE
    replace hPE := Lib.hid hPE
    replace h := Lib.hid h
    replace hrow := Lib.hid hrow
    replace e1 := Lib.hid e1
    replace hen := Lib.hid hen
    replace hLd := Lib.hid hLd
    replace hsame := Lib.hid hsame
    replace hprw := Lib.hid hprw
    replace hlk := Lib.hid hlk
    replace hnx := Lib.hid hnx
    by_cases hr : r = 0
    · subst hr
      go_enter Tryz.func40, Tryz.ntmps40
      go_upto_region 6 with (first | (go_at_call 62; (with_reducible refine hE.out.mono ?_); rintro e w1 ⟨rfl, hG1, hK1⟩))
      have c0 := GS.c0 hG1
      have hL1 := Lib.hid (hLd.out _ hG1 hK1)
      replace hG1 := Lib.hid hG1
      replace hK1 := Lib.hid hK1
      go_upto_region 9 with (first | (go_at_call 16; (with_reducible refine hL1.out.mono ?_); rintro e w2 ⟨rfl, hG2, hK2⟩))
      have hM := members_any w2 hG2
      rw [hnx.out] at hM
      have hS0 : BKS G S gb lb b gL cL gF cF g k0 w 0 w2 := ⟨by rw [all_zero]; exact hG2, hK1.out.trans hK2⟩
      replace hM := Lib.hid hM
      replace hS0 := Lib.hid hS0
      replace hG2 := Lib.hid hG2
      replace hK2 := Lib.hid hK2
      go_upto_region 10 with (first | (go_at_call 64; (with_reducible refine hM.out.mono ?_); rintro e w3 ⟨rfl, rfl⟩))
      go_loopw [28] (fun i wr => ∃ k : Nat, k ≤ g.l.nm ∧ i = .int .i64 (k : Int) ∧ Hid (BKS G S gb lb b gL cL gF cF g k0 w k wr)) (fun i _ => g.l.nm - (intOf i).toNat)
      case atStart => exact ⟨0, by omega, rfl, hS0⟩
      case round =>
        obtain ⟨k, hk, rfl, hS⟩ := hrel
        by_cases hkl : k < g.l.nm
        · have hkz : (k : Int) < (g.l.nm : Int) := by omega
          have hT := hS.out
          have hr1 := hrow.out.kp hT.kp
          have hP := part_any (k : Int) p len cap ps wr hr1.1 (by omega)
          rw [partI_nat] at hP
          have hskip := hprw.out k
          have hMv : ∀ wv, Below wr.heap.size wr wv → Calls Tryz.prog 45 #[.pointer (some ⟨b, 0, none⟩), .int .i64 (k : Int)] wv fun e w' => e = .returned (.tuple #[]) ∧ BKS G S gb lb b gL cL gF cF g k0 w (k + 1) w' := fun wv hb => ((hT.gs.below hb).st.moved (k : Int)).mono fun e w' ⟨e1, e2, e3⟩ => by
            have hx2 := (hT.gs.below hb).moved (k : Int) e2 e3
            rw [all_step g.x k0 (by rw [hnx.out]; exact hkl)] at hx2
            exact ⟨e1, hx2, (hT.kp.trans (Kp.of_below hb)).trans e3⟩
          generalize partB k ps = B1 at *
          replace hP := Lib.hid hP
          replace hT := Lib.hid hT
          replace hr1 := Lib.hid hr1
          replace hMv := Lib.hid hMv
          replace hskip := Lib.hid hskip
          cases B1 with
          | false =>
            have hsk : Hid (g.x.all k0 k = g.x.all k0 (k + 1)) := Lib.hid (all_skip g.x k0 (k := k) (hskip.out rfl))
            go_upto_region 12 with fail
            go_upto_region 14 with (first | (go_at_call 65; (with_reducible refine hP.out.mono ?_); rintro e w4 ⟨rfl, hb4⟩))
            have hS2 : BKS G S gb lb b gL cL gF cF g k0 w (k + 1) w4 := ⟨by
              rw [← hsk.out]
              exact hT.out.gs.below hb4, hT.out.kp.trans (Kp.of_below hb4)⟩
            replace hS2 := Lib.hid hS2
            replace hb4 := Lib.hid hb4
            go_wp2_with fail
            go_roundw
            case rel => exact ⟨k + 1, by omega, by go_num, hS2⟩
            case measure => simp [intOf]; omega
          | true =>
            go_upto_region 12 with fail
            go_upto_region 13 with (first | (go_at_call 65; (with_reducible refine hP.out.mono ?_); rintro e w4 ⟨rfl, hb4⟩))
            have c1 := (hT.out.gs.below hb4).c1
            have hM4 := Lib.hid (hMv.out _ hb4)
            replace hb4 := Lib.hid hb4
            go_wp2_with (first | (go_at_call 45; (with_reducible refine hM4.out.mono ?_); rintro e w5 ⟨rfl, hS2⟩; replace hS2 := Lib.hid hS2))
            go_roundw
            case rel => exact ⟨k + 1, by omega, by go_num, hS2⟩
            case measure => simp [intOf]; omega
        · obtain rfl : k = g.l.nm := by omega
          have hkz : ¬ (g.l.nm : Int) < (g.l.nm : Int) := by omega
          have hfin : GG G S gb lb b gL cL gF cF (g.after k0) wr := by
            have h2 := hS.out.gs
            rw [show g.x.all k0 g.l.nm = WM.new g.cs k0 from all_new hlk.out] at h2
            exact h2
          replace hfin := Lib.hid hfin
          go_wp2_with fail
          go_ret
          exact ⟨rfl, hfin.out, hS.out.kp.mono fun j _ e => .inl e⟩
    · have hrz : (r != 0) = true := by simpa using hr
      replace hr := Lib.hid hr
      go_enter Tryz.func40, Tryz.ntmps40
      go_upto_region 6 with (first | (go_at_call 62; (with_reducible refine hE.out.mono ?_); rintro e w1 ⟨rfl, hG1, hK1⟩))
      have c0 := GS.c0 hG1
      have hL1 := Lib.hid (hLd.out _ hG1 hK1)
      replace hG1 := Lib.hid hG1
      replace hK1 := Lib.hid hK1
      go_wp2_with (first | (go_at_call 16; (with_reducible refine hL1.out.mono ?_); rintro e w2 ⟨rfl, hG2, hK2⟩; replace hG2 := Lib.hid hG2; replace hK2 := Lib.hid hK2))
      go_ret
      exact ⟨rfl, hsame.out _ hr.out hG2.out, (hK1.out.trans hK2.out).mono fun j _ e => .inl e⟩
end
end Go.Proofs.YtiehbbhjpcnbnaaGreat
