/- The contracts of the law's do, made and large; a guard beside what a law has. -/
import Derived.Test.YtljclgphgojphaaGH
namespace Go.Proofs.Ytljclgphgojphaa
open Go.RowKit
set_option linter.unusedVariables false

section
variable {G S : Nat → Prop} {gb lb b gL cL gF cF : Nat}
end
/-- a guard, beside all that was there -/
structure HW (wb : World) (S : Nat → Prop) (gb lb b gL cL gF cF : Nat) (g : GM) (wr : World) : Prop where
  gg : ∃ G, GG G S gb lb b gL cL gF cF g wr ∧ ∀ j, j < wb.heap.size → G j ∧ j ≠ gF
  blw : Below wb.heap.size wb wr
section
variable {wb : World} {S : Nat → Prop} {gb lb b gL cL gF cF : Nat} {g : GM} {wr wv : World}
theorem HW.below (h : HW wb S gb lb b gL cL gF cF g wr) (hb : Below wr.heap.size wr wv) : HW wb S gb lb b gL cL gF cF g wv := by
  obtain ⟨⟨G, h1, h2⟩, h3⟩ := h
  exact ⟨⟨G, GS.below h1 hb, h2⟩, h3.trans (hb.mono h3.size)⟩
theorem HW.ok (h : HW wb S gb lb b gL cL gF cF g wr) : g.Ok := by obtain ⟨⟨G, h1, h2⟩, h3⟩ := h; exact h1.ok
theorem HW.n16 (h : HW wb S gb lb b gL cL gF cF g wr) : g.l.nm ≤ 16 := h.ok.good.ok.nm.2
/-- rows that were there, or came since -/
theorem HW.rows {p : Option Addr} {len : Nat} {ps : List Pst} (h : HW wb S gb lb b gL cL gF cF g wr) (hb : Below wr.heap.size wr wv) (hr : PRow wv p len ps) (hbl : len = 0 ∨ ∃ r off, p = some ⟨r, off, none⟩ ∧ (r < wb.heap.size ∨ wr.heap.size ≤ r)) :
    ∃ G, GG G S gb lb b gL cL gF cF g wv ∧ PRowG G wv p len ps ∧ (∀ j, j < wb.heap.size → G j ∧ j ≠ gF) ∧ Below wb.heap.size wb wv := by
  obtain ⟨⟨G, h1, h2⟩, h3⟩ := h
  have hs := h3.size
  refine ⟨fun j => G j ∨ (wr.heap.size ≤ j ∧ j < wv.heap.size), GS.more h1 hb (fun j hj => ⟨fun e => e.resolve_right (by omega), .inl⟩) (fun j hj => ?_), ⟨hr, ?_⟩, fun j hj => ⟨.inl (h2 j hj).1, (h2 j hj).2⟩, h3.trans (hb.mono h3.size)⟩
  · rcases hj with hj | hj
    · exact Nat.lt_of_lt_of_le (h1.st.lt j hj) hb.size
    · exact hj.2
  · by_cases h0 : len = 0
    · exact .inl h0
    obtain ⟨r, off, e, hr2⟩ := hbl.resolve_left h0
    refine .inr ⟨r, off, e, ?_⟩
    rcases hr2 with hr2 | hr2
    · exact .inl (h2 r hr2).1
    · obtain ⟨b', off', e', hlt, _⟩ := hr.2.2.resolve_left h0
      rw [e] at e'
      injection e' with e'
      injection e' with e1
      exact .inr ⟨hr2, by omega⟩
theorem HW.done {G : Nat → Prop} {r : Int × GM} {e : Ending} {w' : World} (hG : ∀ j, j < wb.heap.size → G j ∧ j ≠ gF) (hb : Below wb.heap.size wb wv) (h : DoneG G S gb lb b gL cL gF cF r wv e w') : e = .returned (.int .i64 r.1) ∧ HW wb S gb lb b gL cL gF cF r.2 w' := by
  obtain ⟨h1, h2, h3⟩ := h
  exact ⟨h1, ⟨_, h2, hG⟩, hb.trans (h3.below hb.size fun j hj e => by
    rcases e with e | e
    · exact e (hG j hj).1
    · exact (hG j hj).2 e)⟩
theorem HW.inn (h : HW wb S gb lb b gL cL gF cF g wr) (m c a : Int) (hm : In64 m) (hc : In64 c) (ha : In64 a) : Calls Try.prog 7 #[.pointer (some ⟨gb, 0, none⟩), .int .i64 m, .int .i64 c, .int .i64 a] wr fun e w' => e = .returned (.int .i64 (g.inn m c a).1) ∧ HW wb S gb lb b gL cL gF cF (g.inn m c a).2 w' := by
  obtain ⟨⟨G, h1, h2⟩, h3⟩ := h
  exact (gin_any g m c a wr h1 hm hc ha).mono fun e w' hd => HW.done h2 h3 hd
theorem HW.out (h : HW wb S gb lb b gL cL gF cF g wr) (m c a : Int) (hm : In64 m) (hc : In64 c) (ha : In64 a) : Calls Try.prog 13 #[.pointer (some ⟨gb, 0, none⟩), .int .i64 m, .int .i64 c, .int .i64 a] wr fun e w' => e = .returned (.int .i64 (g.out m c a).1) ∧ HW wb S gb lb b gL cL gF cF (g.out m c a).2 w' := by
  obtain ⟨⟨G, h1, h2⟩, h3⟩ := h
  exact (gout_any g m c a wr h1 hm hc ha).mono fun e w' hd => HW.done h2 h3 hd
theorem HW.rate (h : HW wb S gb lb b gL cL gF cF g wr) (c a : Int) (ha : In64 a) : Calls Try.prog 12 #[.pointer (some ⟨gb, 0, none⟩), .int .i64 c, .int .i64 a] wr fun e w' => e = .returned (.int .i64 (g.rate c a).1) ∧ HW wb S gb lb b gL cL gF cF (g.rate c a).2 w' := by
  obtain ⟨⟨G, h1, h2⟩, h3⟩ := h
  exact (grate_any g c a wr h1 ha).mono fun e w' hd => HW.done h2 h3 hd
theorem HW.book {p : Option Addr} {len : Nat} {ps : List Pst} (cap : Nat) (h : HW wb S gb lb b gL cL gF cF g wr) (hb : Below wr.heap.size wr wv) (hr : PRow wv p len ps) (hbl : len = 0 ∨ ∃ r off, p = some ⟨r, off, none⟩ ∧ (r < wb.heap.size ∨ wr.heap.size ≤ r)) (hlen : len ≤ 30) :
    Calls Try.prog 11 #[.pointer (some ⟨gb, 0, none⟩), .slice p len cap] wv fun e w' => e = .returned (.int .i64 (g.book ps).1) ∧ HW wb S gb lb b gL cL gF cF (g.book ps).2 w' := by
  obtain ⟨G, h1, h2, h3, h4⟩ := h.rows hb hr hbl
  exact (gbook_any g p len cap ps wv h1 h2 hlen).mono fun e w' hd => HW.done h3 h4 hd
theorem HW.fails {p : Option Addr} {len : Nat} {ps : List Pst} (cap : Nat) (m : Int) (h : HW wb S gb lb b gL cL gF cF g wr) (hb : Below wr.heap.size wr wv) (hr : PRow wv p len ps) (hbl : len = 0 ∨ ∃ r off, p = some ⟨r, off, none⟩ ∧ (r < wb.heap.size ∨ wr.heap.size ≤ r)) (hlen : len ≤ 30) :
    Calls Try.prog 8 #[.pointer (some ⟨gb, 0, none⟩), .int .i64 m, .slice p len cap] wv fun e w' => e = .returned (.int .i64 (g.fails m ps)) ∧ HW wb S gb lb b gL cL gF cF g w' := by
  obtain ⟨G, h1, h2, h3, h4⟩ := h.rows hb hr hbl
  exact (h1.fails m p len cap ps h2 hlen).mono fun e w' ⟨e1, e2, e3⟩ => ⟨e1, ⟨G, e2, h3⟩, h4.trans (e3.below h4.size fun j hj e => e (h3 j hj).1)⟩
theorem HW.flagged (m : Int) (h : HW wb S gb lb b gL cL gF cF g wr) : Calls Try.prog 14 #[.pointer (some ⟨gb, 0, none⟩), .int .i64 m] wr fun e w' => e = .returned (.bool (g.flagged m)) ∧ wr = w' := by
  obtain ⟨⟨G, h1, h2⟩, h3⟩ := h
  exact h1.flagged m
theorem HW.get (m c : Int) (h : HW wb S gb lb b gL cL gF cF g wr) : Calls Try.prog 15 #[.pointer (some ⟨lb, 0, none⟩), .int .i64 m, .int .i64 c] wr fun e w' => e = .returned (.int .i64 (g.l.get m c)) ∧ wr = w' := by
  obtain ⟨⟨G, h1, h2⟩, h3⟩ := h
  obtain ⟨P, gB, cB, hP⟩ := h1.st.pl
  exact get_any m c wr hP
theorem HW.made {cs : List Cur} {l : LM} {ls : List LV} {H : Nat → Prop} {w w' : World} (h : MadeG (fun j => j < wb.heap.size) l cs ls lb gb b gL cL gF cF H S w w') (hb : Below wb.heap.size wb w') : HW wb S gb lb b gL cL gF cF (newGM l cs ls) w' := ⟨⟨H, h.gg, fun j hj => h.sub j hj⟩, hb⟩
end
/-- what made makes -/
def MadeP (cs : List Cur) (ls : List LV) (n len : Nat) (w : World) (e : Ending) (w' : World) : Prop :=
  ((newOk (n : Int) (len : Int) = true ∧ chkT cs = 0 ∧ limsOk ls n len = true) → ∃ gb lb b gL cL gF cF S, e = .returned (.pointer (some ⟨gb, 0, none⟩)) ∧ HW w S gb lb b gL cL gF cF (newGM (LM.new n len) cs ls) w' ∧ w.heap.size ≤ gb ∧ w.heap.size ≤ gL ∧ ∀ j, S j → w.heap.size ≤ j) ∧
  (¬ (newOk (n : Int) (len : Int) = true ∧ chkT cs = 0 ∧ limsOk ls n len = true) → e = .returned (.pointer none)) ∧ Below w.heap.size w w'
set_option maxHeartbeats 4000000 in
set_option maxRecDepth 100000 in
theorem made_any (p : Option Addr) (len cap : Nat) (cs : List Cur) (q : Option Addr) (n c2 : Nat) (ls : List LV) (w : World) (hT : Tab w p len cs) (hls : LRow w q n ls) :
    Calls Try.prog 6 #[.slice p len cap, .slice q n c2] w (MadeP cs ls n len w) := by
  have hN := new_any (n : Int) (len : Int) w
  have hlen := hT.1
  cases hok : newOk (n : Int) (len : Int) with
  | false =>
    have hno : ∀ w', Below w.heap.size w w' → MadeP cs ls n len w (.returned (.pointer none)) w' := fun w' hb => ⟨fun e => (by rw [hok] at e; cases e.1), fun _ => rfl, hb⟩
    replace hN : Calls Try.prog 9 #[.int .i64 (n : Int), .int .i64 (len : Int)] w fun e w' => e = .returned (.tuple #[.pointer none, .int .i64 1]) ∧ Below w.heap.size w w' := hN.mono fun e w' ⟨_, h2, h3⟩ => ⟨h2 hok, h3⟩
    replace hN := Lib.hid hN
    replace hno := Lib.hid hno
    replace hT := Lib.hid hT
    replace hls := Lib.hid hls
    replace hok := Lib.hid hok
    go_enter Try.func6, Try.ntmps6
    go_wp2_with (first | (go_at_call 9; (with_reducible refine hN.out.mono ?_); rintro e w1 ⟨rfl, hb1⟩; replace hb1 := Lib.hid hb1))
    go_ret
    exact hno.out _ hb1.out
  | true =>
    have hnew := newOk_iff.1 hok
    have hg0 : (LM.new n len).Good := by
      obtain ⟨g1, g2⟩ := new_ok (nm := n) (nc := len) (by omega) (by omega)
      exact ⟨g1, g2⟩
    replace hN : Calls Try.prog 9 #[.int .i64 (n : Int), .int .i64 (len : Int)] w fun e w' => ∃ lb, e = .returned (.tuple #[.pointer (some ⟨lb, 0, none⟩), .int .i64 0]) ∧ PL (fun j => w.heap.size ≤ j) w' lb (LM.new n len) ∧ Below w.heap.size w w' := hN.mono fun e w' ⟨h1, _, h3⟩ => by
      obtain ⟨lb, e1, hL⟩ := h1 hok
      simp only [Int.toNat_natCast] at hL
      exact ⟨lb, e1, hL, h3⟩
    by_cases hall : chkT cs = 0 ∧ limsOk ls n len = true
    · have hG : ∀ (lb : Nat) (w1 : World), PL (fun j => w.heap.size ≤ j) w1 lb (LM.new n len) → Below w.heap.size w w1 → Calls Try.prog 10 #[.slice p len cap, .pointer (some ⟨lb, 0, none⟩), .slice q n c2] w1 fun e w' => ∃ gb, e = .returned (.tuple #[.pointer (some ⟨gb, 0, none⟩), .int .i64 0]) ∧ MadeP cs ls n len w (.returned (.pointer (some ⟨gb, 0, none⟩))) w' := fun lb w1 hL hb => by
        refine (newG_any (G' := fun j => j < w.heap.size) p len cap cs lb _ q n c2 ls w1 (hT.kept hb) hL hg0 (hls.kept hb) (fun j _ hj hj2 => by omega) (fun j hj => Nat.lt_of_lt_of_le hj hb.size)).mono ?_
        rintro e w' ⟨_, _, h3, h4⟩
        obtain ⟨gb, b, gL, cL, gF, cF, H, S, e1, hM⟩ := h3 hall.1 hlen hall.2
        have hb2 : Below w.heap.size w w' := hb.trans (h4.below hb.size fun j hj e => e hj)
        exact ⟨gb, e1, fun _ => ⟨gb, lb, b, gL, cL, gF, cF, S, rfl, HW.made hM hb2, Nat.le_trans hb.size hM.fresh.1, Nat.le_trans hb.size hM.fresh.2.1, fun j hj => Nat.le_trans hb.size (hM.fresh.2.2 j hj)⟩, fun e => absurd ⟨hok, hall.1, hall.2⟩ e, hb2⟩
      replace hN := Lib.hid hN
      replace hG := Lib.hid hG
      replace hT := Lib.hid hT
      replace hls := Lib.hid hls
      replace hok := Lib.hid hok
      replace hall := Lib.hid hall
      replace hg0 := Lib.hid hg0
      replace hnew := Lib.hid hnew
      replace hlen := Lib.hid hlen
      go_enter Try.func6, Try.ntmps6
      go_upto_region 4 with (first | (go_at_call 9; (with_reducible refine hN.out.mono ?_); rintro e w1 ⟨lb, rfl, hL1, hb1⟩))
      have hG1 := Lib.hid (hG.out lb _ hL1 hb1)
      replace hL1 := Lib.hid hL1
      replace hb1 := Lib.hid hb1
      go_wp2_with (first | (go_at_call 10; (with_reducible refine hG1.out.mono ?_); rintro e w2 ⟨gb, rfl, hM⟩; replace hM := Lib.hid hM))
      go_ret
      exact hM.out
    · have hno : ∀ w', Below w.heap.size w w' → MadeP cs ls n len w (.returned (.pointer none)) w' := fun w' hb => ⟨fun e => absurd e.2 hall, fun _ => rfl, hb⟩
      have hG : ∀ (lb : Nat) (w1 : World), PL (fun j => w.heap.size ≤ j) w1 lb (LM.new n len) → Below w.heap.size w w1 → Calls Try.prog 10 #[.slice p len cap, .pointer (some ⟨lb, 0, none⟩), .slice q n c2] w1 fun e w' => ∃ X, e = .returned (.tuple #[.pointer none, .int .i64 X]) ∧ Below w.heap.size w w' := fun lb w1 hL hb => by
        refine (newG_any (G' := fun j => j < w.heap.size) p len cap cs lb _ q n c2 ls w1 (hT.kept hb) hL hg0 (hls.kept hb) (fun j _ hj hj2 => by omega) (fun j hj => Nat.lt_of_lt_of_le hj hb.size)).mono ?_
        rintro e w' ⟨h1, h2, _, h4⟩
        have hb2 : Below w.heap.size w w' := hb.trans (h4.below hb.size fun j hj e => e hj)
        by_cases hc : chkT cs = 0
        · have hl : limsOk ls n len = false := by
            cases hx : limsOk ls n len with
            | false => rfl
            | true => exact absurd ⟨hc, hx⟩ hall
          exact ⟨_, (h2 hc (.inr hl)).1, hb2⟩
        · exact ⟨_, (h1 hc).1, hb2⟩
      replace hN := Lib.hid hN
      replace hG := Lib.hid hG
      replace hno := Lib.hid hno
      replace hT := Lib.hid hT
      replace hls := Lib.hid hls
      replace hok := Lib.hid hok
      replace hall := Lib.hid hall
      replace hg0 := Lib.hid hg0
      replace hnew := Lib.hid hnew
      replace hlen := Lib.hid hlen
      go_enter Try.func6, Try.ntmps6
      go_upto_region 4 with (first | (go_at_call 9; (with_reducible refine hN.out.mono ?_); rintro e w1 ⟨lb, rfl, hL1, hb1⟩))
      have hG1 := Lib.hid (hG.out lb _ hL1 hb1)
      replace hL1 := Lib.hid hL1
      replace hb1 := Lib.hid hb1
      go_wp2_with (first | (go_at_call 10; (with_reducible refine hG1.out.mono ?_); rintro e w2 ⟨X, rfl, hb2⟩; replace hb2 := Lib.hid hb2))
      go_ret
      exact hno.out _ hb2.out
/-- are there too many? -/
def manyG (ls : List LV) (ops : List GOp) (len : Nat) : Bool := ops.any (fun x => decide (20 < x.len)) || (ls.any (fun v => decide (20 < v.n)) || (decide (30 < ops.length) || (decide (20 < len) || decide (20 < ls.length))))
theorem many_len {ls : List LV} {ops : List GOp} {len : Nat} (h : manyG ls ops len = false) : ops.length ≤ 30 ∧ len ≤ 20 ∧ ls.length ≤ 20 := by
  unfold manyG at h
  simp only [Bool.or_eq_false_iff, decide_eq_false_iff_not] at h
  omega
theorem many_one {ls : List LV} {ops : List GOp} {len : Nat} (h : manyG ls ops len = false) {x : GOp} (hx : x ∈ ops) : x.len ≤ 20 := by
  unfold manyG at h
  simp only [Bool.or_eq_false_iff, List.any_eq_false, decide_eq_true_eq] at h
  have := h.1 x hx
  omega
set_option maxHeartbeats 4000000 in
set_option maxRecDepth 100000 in
theorem large_any (p : Option Addr) (len cap : Nat) (q : Option Addr) (n c2 : Nat) (ls : List LV) (r : Option Addr) (k3 c3 : Nat) (ops : List GOp) (w : World) (hlen : len ≤ 140737488351232) (hl : LRow w q n ls) (h : OpsW w r k3 ops) :
    Calls Try.prog 5 #[.slice p len cap, .slice q n c2, .slice r k3 c3] w fun e w' => e = .returned (.bool (manyG ls ops len)) ∧ w = w' := by
  obtain ⟨h1, h2, h3, h4⟩ := h
  obtain ⟨l1, l2, l3, l4⟩ := hl
  obtain ⟨X, hX⟩ : ∃ X, manyG ls ops len = X := ⟨_, rfl⟩
  rw [hX]
  replace hX := Lib.hid hX
  replace h3 := Lib.hid h3
  replace l3 := Lib.hid l3
  go_enter Try.func5, Try.ntmps5
  go_wp2_with fail
  go_loop [11] (fun i => ∃ k : Nat, k ≤ k3 ∧ i = .int .i64 k ∧ Hid (∀ j x, j < k → ops[j]? = some x → x.len ≤ 20)) (fun i => k3 - (intOf i).toNat)
  case atStart => exact ⟨0, by omega, rfl, Lib.hid (fun j x h => by omega)⟩
  case round =>
    obtain ⟨k, hk, rfl, hA⟩ := hrel
    by_cases hkn : k < k3
    · have kz : (k : Int) < (k3 : Int) := by omega
      obtain ⟨b, off, rfl, hblt, hcell⟩ := h4.resolve_left (by omega)
      obtain ⟨x, hx⟩ : ∃ x, ops[k]? = some x := ⟨_, List.getElem?_eq_getElem (by omega)⟩
      have c6 : w.cell? ⟨b, off + k * 7 + 6, none⟩ = some (.slice x.p x.len x.cap) := hcell k x hx 6 (by omega)
      clear hcell h4
      by_cases h30 : 20 < x.len
      · have hz : (20 : Int) < (x.len : Int) := by omega
        have hm : X = true := by
          rw [← hX.out]
          unfold manyG
          rw [Bool.or_eq_true]
          exact .inl (List.any_eq_true.2 ⟨x, List.mem_of_getElem? hx, decide_eq_true h30⟩)
        replace hm := Lib.hid hm
        go_wp2_with fail
        go_ret
        exact ⟨by rw [hm.out]; rfl, rfl⟩
      · have hz : ¬ (20 : Int) < (x.len : Int) := by omega
        have hA2 : Hid (∀ j x, j < k + 1 → ops[j]? = some x → x.len ≤ 20) := Lib.hid fun j y hj hy => by
          by_cases e : j = k
          · subst e; rw [hx] at hy; injection hy with hy; subst hy; omega
          · exact hA.out j y (by omega) hy
        go_wp2_with fail
        go_round
        case rel => exact ⟨k + 1, by omega, by go_num, hA2⟩
        case measure => simp [intOf]; omega
    · obtain rfl : k = k3 := by omega
      have kz : ¬ (k : Int) < (k : Int) := by omega
      have hany : ops.any (fun x => decide (20 < x.len)) = false := by
        rw [List.any_eq_false]
        intro x hx
        obtain ⟨j, hj⟩ := List.getElem?_of_mem hx
        have := hA.out j x (by have := (List.getElem?_eq_some_iff.1 hj).1; omega) hj
        simp
        omega
      replace hany := Lib.hid hany
      go_upto_region 8 with fail
      go_loop [24] (fun i => ∃ m : Nat, m ≤ n ∧ i = .int .i64 m ∧ Hid (∀ j v, j < m → ls[j]? = some v → v.n ≤ 20)) (fun i => n - (intOf i).toNat)
      case atStart => exact ⟨0, by omega, rfl, Lib.hid (fun j x h => by omega)⟩
      case round =>
        obtain ⟨m, hm, rfl, hB⟩ := hrel
        by_cases hmn : m < n
        · have mz : (m : Int) < (n : Int) := by omega
          obtain ⟨b, off, rfl, hblt, hcell⟩ := l4.resolve_left (by omega)
          obtain ⟨v, hv⟩ : ∃ v, ls[m]? = some v := ⟨_, List.getElem?_eq_getElem (by omega)⟩
          have c0 := (hcell m v hv).1
          clear hcell l4
          have hvn : v.n ≤ 4611686018427387904 := (l3.out v (List.mem_of_getElem? hv)).row.2.2.1
          by_cases h30 : 20 < v.n
          · have hz : (20 : Int) < (v.n : Int) := by omega
            have hm : X = true := by
              rw [← hX.out]
              unfold manyG
              rw [Bool.or_eq_true, Bool.or_eq_true]
              exact .inr (.inl (List.any_eq_true.2 ⟨v, List.mem_of_getElem? hv, decide_eq_true h30⟩))
            replace hm := Lib.hid hm
            go_wp2_with fail
            go_ret
            exact ⟨by rw [hm.out]; rfl, rfl⟩
          · have hz : ¬ (20 : Int) < (v.n : Int) := by omega
            have hB2 : Hid (∀ j v, j < m + 1 → ls[j]? = some v → v.n ≤ 20) := Lib.hid fun j y hj hy => by
              by_cases e : j = m
              · subst e; rw [hv] at hy; injection hy with hy; subst hy; omega
              · exact hB.out j y (by omega) hy
            go_wp2_with fail
            go_round
            case rel => exact ⟨m + 1, by omega, by go_num, hB2⟩
            case measure => simp [intOf]; omega
        · obtain rfl : m = n := by omega
          have mz : ¬ (m : Int) < (m : Int) := by omega
          have hany2 : ls.any (fun v => decide (20 < v.n)) = false := by
            rw [List.any_eq_false]
            intro x hx
            obtain ⟨j, hj⟩ := List.getElem?_of_mem hx
            have := hB.out j x (by have := (List.getElem?_eq_some_iff.1 hj).1; omega) hj
            simp
            omega
          have hm : X = (decide ((30 : Int) < (k : Int)) || (decide ((20 : Int) < (len : Int)) || decide ((20 : Int) < (m : Int)))) := by
            rw [← hX.out]
            unfold manyG
            rw [hany.out, hany2, h1, l1, Bool.false_or, Bool.false_or]
            congr 1
            · exact decide_eq_decide.2 (by omega)
            congr 1
            · exact decide_eq_decide.2 (by omega)
            · exact decide_eq_decide.2 (by omega)
          replace hm := Lib.hid hm
          replace hany2 := Lib.hid hany2
          by_cases z1 : (30 : Int) < (k : Int)
          · go_wp2_with fail
            go_ret
            exact ⟨by rw [hm.out]; simp [z1], rfl⟩
          by_cases z2 : (20 : Int) < (len : Int)
          · go_wp2_with fail
            go_ret
            exact ⟨by rw [hm.out]; simp [z2], rfl⟩
          by_cases z3 : (20 : Int) < (m : Int)
          · go_wp2_with fail
            go_ret
            exact ⟨by rw [hm.out]; simp [z3], rfl⟩
          · go_wp2_with fail
            go_ret
            exact ⟨by rw [hm.out]; simp [z1, z2, z3], rfl⟩
end Go.Proofs.Ytljclgphgojphaa
