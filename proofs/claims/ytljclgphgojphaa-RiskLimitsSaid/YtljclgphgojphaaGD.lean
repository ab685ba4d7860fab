/- The contracts of a guard's In, Out, Rate, Cut, Take, Swap, Book. -/
import Derived.Test.YtljclgphgojphaaGC
namespace Go.Proofs.Ytljclgphgojphaa
open Go.RowKit
set_option linter.unusedVariables false

section
variable {G S : Nat → Prop} {gb lb b gL cL gF cF : Nat}
/-- a guard that is as it tells, in memory -/
def GG (G S : Nat → Prop) (gb lb b gL cL gF cF : Nat) (g : GM) (w : World) : Prop := GS G S gb lb b gL cL gF cF g.l g.x g.L g.fl w
theorem GG.ok {g : GM} {w : World} (h : GG G S gb lb b gL cL gF cF g w) : g.Ok := ⟨h.st.good, h.nc, GS.chk h⟩
/-- what a call of an operation does -/
def DoneG (G S : Nat → Prop) (gb lb b gL cL gF cF : Nat) (r : Int × GM) (w : World) (e : Ending) (w' : World) : Prop := e = .returned (.int .i64 r.1) ∧ GG G S gb lb b gL cL gF cF r.2 w' ∧ Kp (fun j => ¬ G j ∨ j = gF) w w'
theorem fails_V (g : GM) (hc : g.cs.length = g.l.nc) (m : Int) (ps : List Pst) : failV g.cs g.l.nm g.l g.L m ps = g.fails m ps := by
  unfold failV GM.fails; rw [hc]
/-- the worths are of the ledger -/
theorem moved_same (cs : List Cur) (l : LM) (m : Int) : (WM.new cs l).moved l m = WM.new cs l := by
  unfold WM.moved
  split
  · unfold WM.new
    congr 1
    funext a
    dsimp only
    split
    · rename_i e; rw [e]
    · rfl
  · rfl
theorem moved_new {cs : List Cur} {l k : LM} (hl : l.like k) {m : Int} (hr : ∀ j : Nat, (j : Int) ≠ m → k.row j = l.row j) : (WM.new cs l).moved k m = WM.new cs k := by
  unfold WM.moved
  cases hh : (WM.new cs l).has m with
  | true =>
    rw [if_pos rfl]
    obtain ⟨i, rfl, hi⟩ := WM.has_nat hh
    unfold WM.new
    dsimp only
    rw [hl.1]
    congr 1
    funext a
    rw [Int.toNat_natCast]
    by_cases e : a = i
    · rw [if_pos e, e]
    · rw [if_neg e, hr a (by omega)]
  | false =>
    rw [if_neg (by simp)]
    unfold WM.new
    rw [hl.1]
    congr 1
    funext a
    by_cases e : (a : Int) = m
    · have ha : ¬ a < l.nm := fun h => by
        have : (WM.new cs l).has m = true := has_iff.2 ⟨by omega, by show m < (l.nm : Int); omega⟩
        rw [this] at hh; cases hh
      rw [row_out ha, row_out (by rw [hl.1]; exact ha)]
    · rw [hr a e]
theorem flags_judge (g : GM) (hc : g.cs.length = g.l.nc) : (fun k : Nat => !decide (failV g.cs g.l.nm g.l g.L (k : Int) [] = 0)) = g.judge.fl := by
  funext k
  show _ = decide (g.fails (k : Int) [] ≠ 0)
  rw [fails_V g hc]
  by_cases h : g.fails (k : Int) [] = 0
  · simp [h]
  · simp [h]
theorem GG.fails {g : GM} {w : World} (h : GG G S gb lb b gL cL gF cF g w) (m : Int) (p : Option Addr) (len cap : Nat) (ps : List Pst) (hrow : PRowG G w p len ps) (hlen : len ≤ 30) :
    Calls Try.prog 8 #[.pointer (some ⟨gb, 0, none⟩), .int .i64 m, .slice p len cap] w fun e w' => e = .returned (.int .i64 (g.fails m ps)) ∧ GG G S gb lb b gL cL gF cF g w' ∧ Kp (fun j => ¬ G j) w w' := by
  have := gfails_any m p len cap ps w h hrow hlen
  rw [show g.x.moved g.l m = g.x from moved_same _ _ _, show failV g.x.cs g.x.nm g.l g.L m ps = g.fails m ps from fails_V g h.nc m ps] at this
  exact this
theorem GG.passes {g : GM} {w : World} (h : GG G S gb lb b gL cL gF cF g w) (m : Int) (p : Option Addr) (len cap : Nat) (ps : List Pst) (hrow : PRowG G w p len ps) (hlen : len ≤ 30) :
    Calls Try.prog 20 #[.pointer (some ⟨gb, 0, none⟩), .int .i64 m, .slice p len cap] w fun e w' => e = .returned (.bool (decide (g.fails m ps = 0))) ∧ GG G S gb lb b gL cL gF cF g w' ∧ Kp (fun j => ¬ G j) w w' := by
  have := passes_any m p len cap ps w h hrow hlen
  rw [show g.x.moved g.l m = g.x from moved_same _ _ _, show failV g.x.cs g.x.nm g.l g.L m ps = g.fails m ps from fails_V g h.nc m ps] at this
  exact this
theorem GG.flagged {g : GM} {w : World} (h : GG G S gb lb b gL cL gF cF g w) (m : Int) :
    Calls Try.prog 14 #[.pointer (some ⟨gb, 0, none⟩), .int .i64 m] w fun e w' => e = .returned (.bool (g.flagged m)) ∧ w = w' := flagged_any m w h
/-- flagBehind, behind a change of the ledger or of the worths -/
theorem GG.behind {g : GM} {k : LM} {y : WM} {e0 : Int} {w : World} (h : GS G S gb lb b gL cL gF cF k y g.L g.fl w) (hk : e0 = 0 → y.cs.length = k.nc ∧ y.nm = k.nm) (h0 : e0 ≠ 0 → k = g.l ∧ y = g.x) :
    Calls Try.prog 33 #[.pointer (some ⟨gb, 0, none⟩), .int .i64 e0] w (DoneG G S gb lb b gL cL gF cF (e0, if e0 = 0 then (⟨k, y.cs, g.L, g.fl⟩ : GM).judge else g) w) := by
  refine (flagBehind_any e0 w h).mono ?_
  rintro e w' ⟨rfl, hK, h1, h2⟩
  refine ⟨rfl, ?_, hK⟩
  by_cases he : e0 = 0
  · show GG G S gb lb b gL cL gF cF (if e0 = 0 then _ else _) w'
    rw [if_pos he]
    have h3 := h1 he
    obtain ⟨e1, e2⟩ := hk he
    rw [e2, flags_judge ⟨k, y.cs, g.L, g.fl⟩ e1] at h3
    exact h3
  · show GG G S gb lb b gL cL gF cF (if e0 = 0 then _ else _) w'
    rw [if_neg he]
    obtain ⟨e1, e2⟩ := h0 he
    have h3 := h2 he
    rw [e1, e2] at h3
    exact h3
theorem kp_two {F H : Nat → Prop} {a b c : World} (h : Kp F a b) (k : Kp H b c) (hF : ∀ j, F j → H j) : Kp H a c := (h.mono fun j _ => hF j).trans k
theorem WM.new_out {cs : List Cur} {l : LM} : ∀ a, ¬ a < (WM.new cs l).nm → (WM.new cs l).S a = fun _ => 0 := fun a ha => row_out ha
/-- the ledger was called -/
theorem GG.led {g : GM} {k : LM} {w w' : World} (h : GG G S gb lb b gL cL gF cF g w) (hS : WSt G lb b k g.x w') (hK : Kp (fun j => ¬ G j) w w') (hl : g.l.like k) : GS G S gb lb b gL cL gF cF k g.x g.L g.fl w' := GS.call h hS hK rfl rfl hl h.out

theorem rate_nm (x : WM) (c a : Int) : (x.rate c a).2.nm = x.nm ∧ (x.rate c a).2.S = x.S ∧ (x.rate c a).2.cs.length = x.cs.length := by
  have hb : ∀ cs : List Cur, cs.length = x.cs.length → (x.by cs).2.nm = x.nm ∧ (x.by cs).2.S = x.S ∧ (x.by cs).2.cs.length = x.cs.length := fun cs h => by
    unfold WM.by; split
    · exact ⟨rfl, rfl, h⟩
    · exact ⟨rfl, rfl, rfl⟩
  unfold WM.rate; split
  · exact hb _ (List.length_set ..)
  · exact ⟨rfl, rfl, rfl⟩
theorem cutt_nm (x : WM) (c a : Int) : (x.cutt c a).2.nm = x.nm ∧ (x.cutt c a).2.S = x.S ∧ (x.cutt c a).2.cs.length = x.cs.length := by
  have hb : ∀ cs : List Cur, cs.length = x.cs.length → (x.by cs).2.nm = x.nm ∧ (x.by cs).2.S = x.S ∧ (x.by cs).2.cs.length = x.cs.length := fun cs h => by
    unfold WM.by; split
    · exact ⟨rfl, rfl, h⟩
    · exact ⟨rfl, rfl, rfl⟩
  unfold WM.cutt; split
  · exact hb _ (List.length_set ..)
  · exact ⟨rfl, rfl, rfl⟩
theorem rate_err {x : WM} {c a : Int} (h : (x.rate c a).1 ≠ 0) : (x.rate c a).2 = x := by
  unfold WM.rate at h ⊢
  split
  · rename_i hc
    rw [if_pos hc] at h
    unfold WM.by at h ⊢
    split
    · rename_i h2; rw [if_pos h2] at h; exact absurd rfl h
    · rfl
  · rfl
theorem cutt_err {x : WM} {c a : Int} (h : (x.cutt c a).1 ≠ 0) : (x.cutt c a).2 = x := by
  unfold WM.cutt at h ⊢
  split
  · rename_i hc
    rw [if_pos hc] at h
    unfold WM.by at h ⊢
    split
    · rename_i h2; rw [if_pos h2] at h; exact absurd rfl h
    · rfl
  · rfl
set_option maxHeartbeats 2000000 in
theorem grate_any (g : GM) (c a : Int) (w : World) (h : GG G S gb lb b gL cL gF cF g w) (ha : In64 a) :
    Calls Try.prog 12 #[.pointer (some ⟨gb, 0, none⟩), .int .i64 c, .int .i64 a] w (DoneG G S gb lb b gL cL gF cF (g.rate c a) w) := by
  have c1 := GS.c1 h
  have hP := h.st.rate c a ha
  obtain ⟨n1, n2, n3⟩ := rate_nm g.x c a
  have hT : g.rate c a = ((g.x.rate c a).1, if (g.x.rate c a).1 = 0 then (⟨g.l, (g.x.rate c a).2.cs, g.L, g.fl⟩ : GM).judge else g) := rfl
  have hE : (g.x.rate c a).1 ≠ 0 → (g.x.rate c a).2 = g.x := rate_err
  rw [hT]
  generalize g.x.rate c a = R at *
  obtain ⟨r, y⟩ := R
  dsimp only at hP n1 n2 n3 hE ⊢
  replace hP : Calls Try.prog 34 #[.pointer (some ⟨b, 0, none⟩), .int .i64 c, .int .i64 a] w fun e w' => e = .returned (.int .i64 r) ∧ Kp (fun j => ¬ G j) w w' ∧ Calls Try.prog 33 #[.pointer (some ⟨gb, 0, none⟩), .int .i64 r] w' (DoneG G S gb lb b gL cL gF cF (r, if r = 0 then (⟨g.l, y.cs, g.L, g.fl⟩ : GM).judge else g) w') := hP.mono fun e w' ⟨h1, h2, h3⟩ => ⟨h1, h3, GG.behind (k := g.l) (GS.call h h2 h3 n1 n3 (like_refl _) (fun a ha => by rw [n2]; exact h.out a ha)) (fun _ => ⟨n3.trans h.nc, n1.trans h.nm⟩) (fun e => ⟨rfl, hE e⟩)⟩
  replace hP := Lib.hid hP
  replace h := Lib.hid h
  clear hT hE n1 n2 n3
  generalize (if r = 0 then (⟨g.l, y.cs, g.L, g.fl⟩ : GM).judge else g) = g' at *
  go_enter Try.func12, Try.ntmps12
  go_wp2_with (first | (go_at_call 34; (with_reducible refine hP.out.mono ?_); rintro e w1 ⟨rfl, hK1, hB⟩; replace hK1 := Lib.hid hK1; replace hB := Lib.hid hB) | (go_at_call 33; (with_reducible refine hB.out.mono ?_); rintro e w2 ⟨rfl, hG2, hK2⟩; replace hG2 := Lib.hid hG2; replace hK2 := Lib.hid hK2))
  go_ret
  exact ⟨rfl, hG2.out, kp_two hK1.out hK2.out fun j hj => .inl hj⟩
/-- behind a box of a batch of one -/
structure Boxed (G S : Nat → Prop) (gb lb b gL cL gF cF : Nat) (g : GM) (w : World) (H : Nat → Prop) (m c a : Int) (v : World) : Prop where
  gg : GG H S gb lb b gL cL gF cF g v
  row : PRowG H v (some ⟨w.heap.size, 0, none⟩) 1 [⟨m, c, a⟩]
  blw : Below w.heap.size w v
  sub : ∀ j, G j → H j
theorem GG.box {g : GM} {w : World} (h : GG G S gb lb b gL cL gF cF g w) {m c a : Int} (hm : In64 m) (hc : In64 c) (ha : In64 a) : Boxed G S gb lb b gL cL gF cF g w (fun j => G j ∨ j = w.heap.size) m c a (w.alloc (.cells #[.int .i64 m, .int .i64 c, .int .i64 a] 39)) := by
  have hb : Below w.heap.size w (w.alloc (.cells #[.int .i64 m, .int .i64 c, .int .i64 a] 39)) := (Below.refl _ _).alloc (Nat.le_refl _) _
  refine ⟨GS.more h hb (fun j hj => ⟨fun e => e.resolve_right (by omega), .inl⟩) (fun j hj => ?_), ⟨prow_one hm hc ha, .inr ⟨_, 0, rfl, .inr rfl⟩⟩, hb, fun j hj => .inl hj⟩
  rcases hj with hj | rfl
  · exact Nat.lt_of_lt_of_le (h.st.lt j hj) hb.size
  · simp
/-- back from there: what is G's stays -/
theorem GG.back {g g' : GM} {w v w' : World} {H : Nat → Prop} (h : GG G S gb lb b gL cL gF cF g w) (hG : ∀ j, G j → H j) (hb : Below w.heap.size w v) (h' : GG H S gb lb b gL cL gF cF g' w') (hK : Kp (fun j => ¬ H j ∨ j = gF) v w') (hH : ∀ j, H j → G j ∨ w.heap.size ≤ j) : GG G S gb lb b gL cL gF cF g' w' ∧ Kp (fun j => ¬ G j ∨ j = gF) w w' :=
  ⟨GS.less h' hG h.hg fun j hj => (h.hs j hj).1, (Kp.of_below hb).trans ⟨hK.os, hK.tape, hK.output, hK.size, fun j hj hn => hK.block j hj fun e => hn (e.imp (fun e x => e (hG j x)) id)⟩⟩
theorem inn_inE {g : GM} (hg : g.l.Good) {m c a : Int} : g.l.like (g.l.inn m c a).2 ∧ ((g.l.inn m c a).1 ≠ 0 → (g.l.inn m c a).2 = g.l) := (inn_good hg m c a).2
theorem fails_has {g : GM} {m : Int} {ps : List Pst} (h : g.fails m ps = 0) : 0 ≤ m ∧ m < g.l.nm := by
  unfold GM.fails at h
  split at h
  · assumption
  · exact absurd h (by decide)
set_option maxHeartbeats 4000000 in
set_option maxRecDepth 100000 in
theorem gin_any (g : GM) (m c a : Int) (w : World) (h : GG G S gb lb b gL cL gF cF g w) (hm : In64 m) (hc : In64 c) (ha : In64 a) :
    Calls Try.prog 7 #[.pointer (some ⟨gb, 0, none⟩), .int .i64 m, .int .i64 c, .int .i64 a] w (DoneG G S gb lb b gL cL gF cF (g.inn m c a) w) := by
  by_cases h1 : a < 1
  · have e1 : g.inn m c a = (1, g) := by unfold GM.inn; rw [if_pos h1]
    rw [e1]
    replace h := Lib.hid h
    go_enter Try.func7, Try.ntmps7
    go_wp2_with fail
    go_ret
    exact ⟨rfl, h.out, Kp.refl _ _⟩
  have hx := h.box hm hc ha
  have hO := one_any m c a w
  obtain ⟨H, hH⟩ : ∃ H : Nat → Prop, H = fun j => G j ∨ j = w.heap.size := ⟨_, rfl⟩
  rw [← hH] at hx
  have hfin : ∀ (r : Int) (g' : GM) (w' : World), GG H S gb lb b gL cL gF cF g' w' → Kp (fun j => ¬ H j ∨ j = gF) (w.alloc (.cells #[.int .i64 m, .int .i64 c, .int .i64 a] 39)) w' → (r, g') = g.inn m c a → DoneG G S gb lb b gL cL gF cF (g.inn m c a) w (.returned (.int .i64 r)) w' := fun r g' w' h2 hK e => by
    rw [← e]
    obtain ⟨k1, k2⟩ := h.back hx.sub hx.blw h2 hK (fun j hj => by rw [hH] at hj; exact hj.imp id fun e => by omega)
    exact ⟨rfl, k1, k2⟩
  generalize hv : w.alloc (.cells #[.int .i64 m, .int .i64 c, .int .i64 a] 39) = v at *
  clear hH
  have hN := netShort_any m _ 1 1 _ v hx.gg hx.row (by omega)
  rw [show g.x.moved g.l m = g.x from moved_same _ _ _] at hN
  obtain ⟨r1, r2, r3, hR⟩ : ∃ r1 r2 r3, g.x.iff m [⟨m, c, a⟩] = (r1, r2, r3) := ⟨_, _, _, rfl⟩
  rw [hR] at hN
  have hE : g.inE m c a = r3 := by unfold GM.inE; rw [hR]
  replace hN := Lib.hid hN
  replace hx := Lib.hid hx
  replace hv := Lib.hid hv
  replace h := Lib.hid h
  clear hR
  by_cases h3 : r3 = 0
  · subst h3
    by_cases hr : (g.l.inn m c a).1 = 0
    · have hinn : g.inn m c a = (0, ⟨(g.l.inn m c a).2, g.cs, g.L, if (g.after (g.l.inn m c a).2).fails m [] = 0 then upd g.fl m.toNat false else g.fl⟩) := by
        unfold GM.inn; rw [if_neg h1, if_neg (by rw [hE]; simp), if_neg (by rw [hr]; simp)]
      have hl := (inn_inE (m := m) (c := c) (a := a) h.out.ok.good).1
      have hrw := fun (j : Nat) (hj : (j : Int) ≠ m) => inn_rows (l := g.l) m c a hj
      have hLd : ∀ wv, GG H S gb lb b gL cL gF cF g wv → Calls Try.prog 18 #[.pointer (some ⟨lb, 0, none⟩), .int .i64 m, .int .i64 c, .int .i64 a] wv fun e w' => e = .returned (.int .i64 0) ∧ GS H S gb lb b gL cL gF cF (g.l.inn m c a).2 g.x g.L g.fl w' ∧ Kp (fun j => ¬ H j) wv w' := fun wv hw => (hw.st.inn m c a ha).mono fun e w' ⟨e1, e2, e3⟩ => ⟨by rw [← hr]; exact e1, hw.led e2 e3 hl, e3⟩
      have hMv : ∀ wv, GS H S gb lb b gL cL gF cF (g.l.inn m c a).2 g.x g.L g.fl wv → Calls Try.prog 19 #[.pointer (some ⟨b, 0, none⟩), .int .i64 m] wv fun e w' => e = .returned (.tuple #[]) ∧ GG H S gb lb b gL cL gF cF (g.after (g.l.inn m c a).2) w' ∧ Kp (fun j => ¬ H j) wv w' := fun wv hw => (hw.st.moved m).mono fun e w' ⟨e1, e2, e3⟩ => ⟨e1, by
        have hx2 := hw.moved m e2 e3
        rw [show g.x.moved (g.l.inn m c a).2 m = WM.new g.cs (g.l.inn m c a).2 from moved_new hl hrw] at hx2
        exact hx2, e3⟩
      generalize (g.l.inn m c a).2 = k at *
      have hPs : ∀ wv, GG H S gb lb b gL cL gF cF (g.after k) wv → _ := fun wv hw => hw.passes m none 0 0 [] (PRowG.nil H wv) (by omega)
      have hhas := fails_has (g := g.after k) (m := m) (ps := [])
      have hnm : (g.after k).l.nm = g.l.nm := hl.1
      replace hLd := Lib.hid hLd
      replace hMv := Lib.hid hMv
      replace hl := Lib.hid hl
      clear hrw
      by_cases hz : (g.after k).fails m [] = 0
      · rw [if_pos hz] at hinn
        obtain ⟨i, rfl, hi⟩ : ∃ i : Nat, m = i ∧ i < (g.after k).l.nm := ⟨m.toNat, by have := hhas hz; omega, by have := hhas hz; omega⟩
        rw [Int.toNat_natCast] at hinn
        rw [show decide ((g.after k).fails (i : Int) [] = 0) = true from by simpa using hz] at hPs
        have hi16 : (i : Int) < ((g.after k).l.nm : Int) := by omega
        have hnm16 : ∀ wv, GG H S gb lb b gL cL gF cF (g.after k) wv → (g.after k).l.nm ≤ 16 := fun wv hw => GS.nm16 hw
        replace hPs := Lib.hid hPs
        replace hfin := Lib.hid hfin
        replace hE := Lib.hid hE
        replace hz := Lib.hid hz
        replace hinn := Lib.hid hinn
        replace hhas := Lib.hid hhas
        replace hnm := Lib.hid hnm
        replace hr := Lib.hid hr
        replace hnm16 := Lib.hid hnm16
        go_enter Try.func7, Try.ntmps7
        go_upto_region 3 with fail
        go_upto_region 4 with (first | (go_at_call 17; (with_reducible refine hO.mono ?_); rintro e w0 ⟨rfl, rfl⟩) | (go_at_call 16; (with_reducible refine hN.out.mono ?_); rintro e w1 ⟨rfl, hS1, hK1⟩))
        have c0 := GS.c0 hS1
        have hC := Lib.hid (hLd.out _ hS1)
        replace hS1 := Lib.hid hS1
        replace hK1 := Lib.hid hK1
        go_upto_region 7 with (first | (go_at_call 18; (with_reducible refine hC.out.mono ?_); rintro e w2 ⟨rfl, hS2, hK2⟩))
        have c1 := GS.c1 hS2
        have hD := Lib.hid (hMv.out _ hS2)
        replace hS2 := Lib.hid hS2
        replace hK2 := Lib.hid hK2
        go_upto_region 10 with (first | (go_at_call 19; (with_reducible refine hD.out.mono ?_); rintro e w3 ⟨rfl, hS3, hK3⟩))
        have hF := Lib.hid (hPs.out _ hS3)
        replace hS3 := Lib.hid hS3
        replace hK3 := Lib.hid hK3
        go_upto_region 11 with (first | (go_at_call 20; (with_reducible refine hF.out.mono ?_); rintro e w4 ⟨rfl, hS4, hK4⟩))
        have c3 := GS.c3 hS4
        have hfz := hS4.fr.free i
        have hcc := hS4.fr.cell (m := i) hi
        have hS5 : GG H S gb lb b gL cL gF cF ⟨k, g.cs, g.L, upd g.fl i false⟩ (w4.setCell ⟨gF, i, none⟩ (.bool false)) := GS.setF hS4 hi false
        replace hS5 := Lib.hid hS5
        replace hS4 := Lib.hid hS4
        replace hK4 := Lib.hid hK4
        go_wp2_with fail
        go_ret
        refine hfin.out _ _ _ hS5.out ?_ hinn.out.symm
        exact ((((hK1.out.trans hK2.out).trans hK3.out).trans hK4.out).mono fun j _ e => .inl e).trans (Kp.setCell (F := fun j => ¬ H j ∨ j = gF) (Kp.refl _ w4) (p := ⟨gF, i, none⟩) (.inr rfl |> .inl) _)
      · rw [if_neg hz] at hinn
        rw [show decide ((g.after k).fails m [] = 0) = false from by simpa using hz] at hPs
        replace hPs := Lib.hid hPs
        replace hfin := Lib.hid hfin
        replace hE := Lib.hid hE
        replace hz := Lib.hid hz
        replace hinn := Lib.hid hinn
        replace hhas := Lib.hid hhas
        replace hnm := Lib.hid hnm
        replace hr := Lib.hid hr
        go_enter Try.func7, Try.ntmps7
        go_upto_region 3 with fail
        go_upto_region 4 with (first | (go_at_call 17; (with_reducible refine hO.mono ?_); rintro e w0 ⟨rfl, rfl⟩) | (go_at_call 16; (with_reducible refine hN.out.mono ?_); rintro e w1 ⟨rfl, hS1, hK1⟩))
        have c0 := GS.c0 hS1
        have hC := Lib.hid (hLd.out _ hS1)
        replace hS1 := Lib.hid hS1
        replace hK1 := Lib.hid hK1
        go_upto_region 7 with (first | (go_at_call 18; (with_reducible refine hC.out.mono ?_); rintro e w2 ⟨rfl, hS2, hK2⟩))
        have c1 := GS.c1 hS2
        have hD := Lib.hid (hMv.out _ hS2)
        replace hS2 := Lib.hid hS2
        replace hK2 := Lib.hid hK2
        go_upto_region 10 with (first | (go_at_call 19; (with_reducible refine hD.out.mono ?_); rintro e w3 ⟨rfl, hS3, hK3⟩))
        have hF := Lib.hid (hPs.out _ hS3)
        replace hS3 := Lib.hid hS3
        replace hK3 := Lib.hid hK3
        go_wp2_with (first | (go_at_call 20; (with_reducible refine hF.out.mono ?_); rintro e w4 ⟨rfl, hS4, hK4⟩; replace hS4 := Lib.hid hS4; replace hK4 := Lib.hid hK4))
        go_ret
        refine hfin.out _ (g.after k) _ hS4.out ?_ hinn.out.symm
        exact (((hK1.out.trans hK2.out).trans hK3.out).trans hK4.out).mono fun j _ e => .inl e
    · have hinn : g.inn m c a = ((g.l.inn m c a).1, g) := by
        unfold GM.inn; rw [if_neg h1, if_neg (by rw [hE]; simp), if_pos hr]
      have hle := (inn_inE (m := m) (c := c) (a := a) h.out.ok.good).2 hr
      have hLd : ∀ wv, GG H S gb lb b gL cL gF cF g wv → Calls Try.prog 18 #[.pointer (some ⟨lb, 0, none⟩), .int .i64 m, .int .i64 c, .int .i64 a] wv fun e w' => e = .returned (.int .i64 (g.l.inn m c a).1) ∧ GG H S gb lb b gL cL gF cF g w' ∧ Kp (fun j => ¬ H j) wv w' := fun wv hw => (hw.st.inn m c a ha).mono fun e w' ⟨e1, e2, e3⟩ => ⟨e1, by
        have := hw.led e2 e3 (by rw [hle]; exact like_refl _)
        dsimp only at this
        rw [hle] at this
        exact this, e3⟩
      generalize (g.l.inn m c a).1 = r at *
      have hrz : (r != 0) = true := by simpa using hr
      replace hLd := Lib.hid hLd
      replace hfin := Lib.hid hfin
      replace hE := Lib.hid hE
      replace hinn := Lib.hid hinn
      replace hle := Lib.hid hle
      replace hr := Lib.hid hr
      go_enter Try.func7, Try.ntmps7
      go_upto_region 3 with fail
      go_upto_region 4 with (first | (go_at_call 17; (with_reducible refine hO.mono ?_); rintro e w0 ⟨rfl, rfl⟩) | (go_at_call 16; (with_reducible refine hN.out.mono ?_); rintro e w1 ⟨rfl, hS1, hK1⟩))
      have c0 := GS.c0 hS1
      have hC := Lib.hid (hLd.out _ hS1)
      replace hS1 := Lib.hid hS1
      replace hK1 := Lib.hid hK1
      go_wp2_with (first | (go_at_call 18; (with_reducible refine hC.out.mono ?_); rintro e w2 ⟨rfl, hS2, hK2⟩; replace hS2 := Lib.hid hS2; replace hK2 := Lib.hid hK2))
      go_ret
      refine hfin.out _ g _ hS2.out ?_ hinn.out.symm
      exact (hK1.out.trans hK2.out).mono fun j _ e => .inl e
  · have hinn : g.inn m c a = (r3, g) := by unfold GM.inn; rw [if_neg h1, hE, if_pos h3]
    have hrz : (r3 != 0) = true := by simpa using h3
    replace hfin := Lib.hid hfin
    replace hE := Lib.hid hE
    replace hinn := Lib.hid hinn
    replace h3 := Lib.hid h3
    go_enter Try.func7, Try.ntmps7
    go_upto_region 3 with fail
    go_wp2_with (first | (go_at_call 17; (with_reducible refine hO.mono ?_); rintro e w0 ⟨rfl, rfl⟩) | (go_at_call 16; (with_reducible refine hN.out.mono ?_); rintro e w1 ⟨rfl, hS1, hK1⟩; replace hS1 := Lib.hid hS1; replace hK1 := Lib.hid hK1))
    go_ret
    refine hfin.out _ g _ hS1.out ?_ hinn.out.symm
    exact hK1.out.mono fun j _ e => .inl e
end
end Go.Proofs.Ytljclgphgojphaa
