/- Each member that isn't flagged passes all tests: the law's walk. -/
import Derived.Test.YtljclgphgojphaaGreatGJ
namespace Go.Proofs.YtljclgphgojphaaGreat
open Go.RowKit
set_option linter.unusedVariables false

/-- a row of bools of the call's own -/
def OwnBo (B : Nat) (w : World) (v : Value) (bs : List Bool) : Prop := w.ownsRow B 4 1 v bs.length (bs.map Value.bool)
theorem OwnBo.nil (B : Nat) (w : World) : OwnBo B w (.slice none 0 0) [] := World.ownsRow_nil w B 4 1
theorem OwnBo.lt {B : Nat} {w : World} {v : Value} {l : List Bool} (h : OwnBo B w v l) : ∀ k, v.ownBlock = some k → B ≤ k ∧ k < w.heap.size := World.ownsRow.lt h
theorem OwnBo.block {B : Nat} {w w' : World} {v : Value} {l : List Bool} (h : OwnBo B w v l) (hb : ∀ g, v.ownBlock = some g → w'.heap[g]? = w.heap[g]?) : OwnBo B w' v l := by
  obtain ⟨hlen, h⟩ := h
  refine ⟨hlen, h.imp id ?_⟩
  rintro ⟨g, cap, cur, rfl, hg, hh, r⟩
  exact ⟨g, cap, cur, rfl, hg, (hb g rfl).trans hh, r⟩
theorem OwnBo.shape {B : Nat} {w : World} {v : Value} {l : List Bool} (h : OwnBo B w v l) : ∃ p cap, v = .slice p l.length cap := by
  rcases h.2 with ⟨rfl, h0⟩ | ⟨g, cap, cur, rfl, _⟩
  · exact ⟨none, 0, by rw [h0]⟩
  · exact ⟨_, cap, rfl⟩
theorem OwnBo.cell {B : Nat} {w : World} {v : Value} {l : List Bool} (h : OwnBo B w v l) {m : Nat} {x : Bool} (hx : l[m]? = some x) : ∃ g cap, v = .slice (some ⟨g, 0, none⟩) l.length cap ∧ w.cell? ⟨g, m, none⟩ = some (.bool x) := by
  rcases h.2 with ⟨_, h0⟩ | ⟨g, cap, cur, rfl, hg, hh, hn, hm, hs, ht⟩
  · have := (List.getElem?_eq_some_iff.1 hx).1; omega
  · refine ⟨g, cap, rfl, obj_cell hh ?_⟩
    have hml := (List.getElem?_eq_some_iff.1 hx).1
    have e : (l.map Value.bool)[m]? = cur[m]? := by rw [← ht, List.getElem?_take, if_pos (by omega), Array.getElem?_toList]
    rw [← e, List.getElem?_map, hx]
    rfl
set_option maxRecDepth 100000 in
theorem appBo_run (w : World) (B : Nat) (v : Value) (l : List Bool) (hown : OwnBo B w v l) (hB : B ≤ w.heap.size) (a : Addr) (x : Bool) (hx : w.cell? (a.add 0) = some (.bool x)) (hn : l.length + 1 ≤ 1000) :
    ∃ v' w', (Builtin.append_ #[54, 54] 54 #[v, .slice (some a) 1 1]).run Tryz.prog w = .ok v' w' ∧ OwnBo B w' v' (l ++ [x]) ∧ w.grownBy w' v.ownBlock := by
  obtain ⟨i0, hi, hz0, hz1, hz2⟩ := info_parts Tryz.info4g
  obtain ⟨v', w', h2, h3, h4, _⟩ := run_append_own (P := Tryz.prog) w B 54 54 4 i0 (.bool false) 1 1 Tryz.underlying54 hi hz0 hz1 hz2 rfl (by decide) v l.length (l.map Value.bool) hown a 1 1 [.bool x] rfl
    (fun j u hu => by
      match j with
      | 0 => injection hu with hu; rw [← hu]; exact hx
      | j + 1 => simp at hu)
    (fun u hu => by obtain rfl := List.mem_singleton.1 hu; rfl) (by unfold maxLen; omega) (by omega) hB
  refine ⟨v', w', h2, ?_, h4⟩
  unfold OwnBo
  rw [List.length_append, List.map_append]
  exact h3
def flagL (g : GM) (k : Nat) : List Bool := (List.range k).map fun m : Nat => g.flagged (m : Int)
theorem flagL_succ (g : GM) (k : Nat) : flagL g (k + 1) = flagL g k ++ [g.flagged (k : Int)] := by unfold flagL; rw [List.range_succ, List.map_append]; rfl
theorem flagL_len (g : GM) (k : Nat) : (flagL g k).length = k := by unfold flagL; simp
theorem flagL_at (g : GM) {k m : Nat} (h : m < k) : (flagL g k)[m]? = some (g.flagged (m : Int)) := by unfold flagL; rw [List.getElem?_map, List.getElem?_range h]; rfl
/-- the flags are noted: the first k members' -/
structure NoteF (wb : World) (S : Nat → Prop) (gb lb b gL cL gF cF : Nat) (g : GM) (w0 : World) (k : Nat) (v : Value) (wr : World) : Prop where
  hw0 : HW wb S gb lb b gL cL gF cF g w0
  blw : Below w0.heap.size w0 wr
  own : OwnBo w0.heap.size wr v (flagL g k)
/-- the operation is done; the flags as they were lie where they lay; so does the operation -/
structure PastF (wb : World) (S : Nat → Prop) (gb lb b gL cL gF cF : Nat) (g0 g : GM) (B0 : Nat) (n ob : Nat) (o : GOp) (v : Value) (wr : World) : Prop where
  gg : ∃ G, GG G S gb lb b gL cL gF cF g wr ∧ (∀ j, j < wb.heap.size → G j ∧ j ≠ gF) ∧ (∀ j, v.ownBlock = some j → G j ∧ j ≠ gF) ∧ G ob ∧ ob ≠ gF
  blw : Below wb.heap.size wb wr
  own : OwnBo B0 wr v (flagL g0 n)
  box : wr.heap[ob]? = some (.cells o.arr 42 (0, 0))
section
variable {wb : World} {S : Nat → Prop} {gb lb b gL cL gF cF : Nat} {g g0 : GM} {w0 wr wv : World} {k n ob B0 : Nat} {v : Value} {o : GOp}
theorem PastF.hw (h : PastF wb S gb lb b gL cL gF cF g0 g B0 n ob o v wr) : HW wb S gb lb b gL cL gF cF g wr := by
  obtain ⟨G, h1, h2, _⟩ := h.gg
  exact ⟨⟨G, h1, h2⟩, h.blw⟩
theorem PastF.fails (m : Int) (h : PastF wb S gb lb b gL cL gF cF g0 g B0 n ob o v wr) : Calls Tryz.prog 22 #[.pointer (some ⟨gb, 0, none⟩), .int .i64 m, .slice none 0 0] wr fun e w' => e = .returned (.int .i64 (g.fails m [])) ∧ PastF wb S gb lb b gL cL gF cF g0 g B0 n ob o v w' := by
  obtain ⟨G, h1, h2, h3, h4, h5⟩ := h.gg
  refine (h1.fails m none 0 0 [] (PRowG.nil G wr) (by omega)).mono ?_
  rintro e w' ⟨e1, e2, e3⟩
  refine ⟨e1, ⟨G, e2, h2, h3, h4, h5⟩, h.blw.trans (e3.below h.blw.size fun j hj e => e (h2 j hj).1), h.own.block fun j hj => e3.block j (h.own.lt j hj).2 fun e => e (h3 j hj).1, (e3.block ob (obj_lt h.box) fun e => e h4).trans h.box⟩
theorem NoteF.hw (h : NoteF wb S gb lb b gL cL gF cF g w0 k v wr) : HW wb S gb lb b gL cL gF cF g wr := h.hw0.below h.blw
theorem NoteF.next {v' : Value} {w' : World} (h : NoteF wb S gb lb b gL cL gF cF g w0 k v wr) (hown : OwnBo w0.heap.size w' v' (flagL g k ++ [g.flagged (k : Int)])) (hg : (wr.alloc (.cells #[.bool (g.flagged (k : Int))] 4)).grownBy w' v.ownBlock) : NoteF wb S gb lb b gL cL gF cF g w0 (k + 1) v' w' :=
  ⟨h.hw0, (h.blw.alloc h.blw.size _).grown hg (by have := h.blw.size; simp; omega) (fun j hj => (h.own.lt j hj).1), by rw [flagL_succ]; exact hown⟩
theorem NoteF.app (h : NoteF wb S gb lb b gL cL gF cF g w0 k v wr) (hk : k ≤ 100) : ∃ v' w', (Builtin.append_ #[54, 54] 54 #[v, .slice (some ⟨wr.heap.size, 0, none⟩) 1 1]).run Tryz.prog (wr.alloc (.cells #[.bool (g.flagged (k : Int))] 4)) = .ok v' w' ∧ NoteF wb S gb lb b gL cL gF cF g w0 (k + 1) v' w' := by
  have hb : Below wr.heap.size wr (wr.alloc (.cells #[.bool (g.flagged (k : Int))] 4)) := (Below.refl _ _).alloc (Nat.le_refl _) _
  obtain ⟨v', w', h1, h2, h3⟩ := appBo_run (wr.alloc (.cells #[.bool (g.flagged (k : Int))] 4)) w0.heap.size v (flagL g k) (h.own.block fun j hj => hb.block j (h.own.lt j hj).2) (by have := h.blw.size; simp; omega) ⟨wr.heap.size, 0, none⟩ (g.flagged (k : Int)) (obj_cell (heap_alloc_new wr _) rfl) (by rw [flagL_len]; omega)
  exact ⟨v', w', h1, h.next h2 h3⟩
theorem NoteF.op (h : NoteF wb S gb lb b gL cL gF cF g w0 k v wr) (hob : ob < w0.heap.size) (hbx : wr.heap[ob]? = some (.cells o.arr 42 (0, 0))) (hwo : ∃ wq, HW wb S gb lb b gL cL gF cF g wq ∧ Below wq.heap.size wq w0 ∧ wq.heap.size ≤ ob) (ho : o.Ok wr) (hbl : o.len = 0 ∨ ∃ r off, o.p = some ⟨r, off, none⟩ ∧ r < wb.heap.size) (hlen : o.len ≤ 30) :
    Calls Tryz.prog 12 #[.pointer (some ⟨gb, 0, none⟩), .agg o.arr] wr fun e w' => e = .returned (.int .i64 (opG g o).1) ∧ PastF wb S gb lb b gL cL gF cF g (opG g o).2 w0.heap.size k ob o v w' := by
  obtain ⟨wq, hq, hbq, hqo⟩ := hwo
  have hb2 : Below wq.heap.size wq wr := hbq.trans (h.blw.mono hbq.size)
  obtain ⟨⟨G, g1, g2⟩, g3⟩ := hq
  have hs := hb2.size
  have hs0 := hbq.size
  have hFlt := g1.fr.lt
  have gg : GG (fun j => G j ∨ (wq.heap.size ≤ j ∧ j < wr.heap.size)) S gb lb b gL cL gF cF g wr := GS.more g1 hb2 (fun j hj => ⟨fun e => e.resolve_right (by omega), .inl⟩) (fun j hj => by
    rcases hj with hj | hj
    · exact Nat.lt_of_lt_of_le (g1.st.lt j hj) hs
    · exact hj.2)
  have hrow : PRowG (fun j => G j ∨ (wq.heap.size ≤ j ∧ j < wr.heap.size)) wr o.p o.len o.ps := ⟨ho.p, hbl.imp id fun ⟨r, off, e, hr⟩ => ⟨r, off, e, .inl (g2 r hr).1⟩⟩
  refine (gdo_any g o wr gg ho.m ho.c ho.a ho.b hrow hlen).mono ?_
  rintro e w' ⟨e1, e2, e3⟩
  have hvb : ∀ j, v.ownBlock = some j → (G j ∨ (wq.heap.size ≤ j ∧ j < wr.heap.size)) ∧ j ≠ gF := fun j hj => by
    have := h.own.lt j hj
    exact ⟨.inr ⟨by omega, by omega⟩, by omega⟩
  have hobG : (G ob ∨ (wq.heap.size ≤ ob ∧ ob < wr.heap.size)) ∧ ob ≠ gF := ⟨.inr ⟨hqo, by have := obj_lt hbx; omega⟩, by omega⟩
  have hkeep : ∀ j, j < wr.heap.size → ((G j ∨ (wq.heap.size ≤ j ∧ j < wr.heap.size)) ∧ j ≠ gF) → w'.heap[j]? = wr.heap[j]? := fun j hj hg => e3.block j hj fun e => by
    rcases e with e | e
    · exact e hg.1
    · exact hg.2 e
  exact ⟨e1, ⟨_, e2, fun j hj => ⟨.inl (g2 j hj).1, (g2 j hj).2⟩, hvb, hobG.1, hobG.2⟩, h.hw.blw.trans (e3.below h.hw.blw.size fun j hj e => by
    rcases e with e | e
    · exact e (.inl (g2 j hj).1)
    · exact (g2 j hj).2 e), h.own.block fun j hj => hkeep j (h.own.lt j hj).2 (hvb j hj), (hkeep ob (obj_lt hbx) hobG).trans hbx⟩
end
/-- between the law's operations -/
structure HLoop (wb : World) (S : Nat → Prop) (gb lb b gL cL gF cF : Nat) (n : Nat) (g : GM) (wr : World) : Prop where
  hw : HW wb S gb lb b gL cL gF cF g wr
  inv : g.Inv
  nm : g.l.nm = n
set_option maxHeartbeats 8000000 in
set_option maxRecDepth 100000 in
theorem riskHolds_any (p : Option Addr) (len cap : Nat) (cs : List Cur) (q : Option Addr) (n c2 : Nat) (ls : List LV) (r : Option Addr) (k3 c3 : Nat) (ops : List GOp) (w : World) (hT : Tab w p len cs) (hl : LRow w q n ls) (ho : OpsW w r k3 ops) :
    Calls Tryz.prog 4 #[.slice p len cap, .slice q n c2, .slice r k3 c3] w fun e w' => e = .returned (.bool true) ∧ Below w.heap.size w w' := by
  have hA := Lib.hid (awake_any w)
  have hlm : len ≤ 140737488351232 := hT.2.2.1
  replace hT := Lib.hid hT
  replace hl := Lib.hid hl
  replace ho := Lib.hid ho
  go_enter Tryz.func4, Tryz.ntmps4
  go_upto_region 3 with (first | (go_at_call 6; (with_reducible refine hA.out.mono ?_); rintro e w1 ⟨rfl, hB1⟩))
  have hT1 := hT.out.kept hB1
  have hl1 := hl.out.kept hB1
  have ho1 := ho.out.kept hB1
  have cL := large_any p len cap q n c2 ls r k3 c3 ops w1 hlm hl1 ho1
  have cM := made_any p len cap cs q n c2 ls w1 hT1 hl1
  replace hB1 := Lib.hid hB1
  replace hT1 := Lib.hid hT1
  replace hl1 := Lib.hid hl1
  cases hc1 : manyG ls ops len with
  | true =>
    rw [hc1] at cL
    replace cL := Lib.hid cL
    replace ho1 := Lib.hid ho1
    replace cM := Lib.hid cM
    go_wp2_with (first | (go_at_call 7; (with_reducible refine cL.out.mono ?_); rintro e w2 ⟨rfl, rfl⟩))
    go_ret
    exact ⟨rfl, hB1.out⟩
  | false =>
  rw [hc1] at cL
  replace cL := Lib.hid cL
  by_cases hok : newOk (n : Int) (len : Int) = true ∧ chkT cs = 0 ∧ limsOk ls n len = true
  · replace cM : Calls Tryz.prog 28 #[.slice p len cap, .slice q n c2] w1 fun e w' => ∃ gb lb b gL cL gF cF S, e = .returned (.pointer (some ⟨gb, 0, none⟩)) ∧ HLoop w1 S gb lb b gL cL gF cF n (newGM (LM.new n len) cs ls) w' := cM.mono fun e w' ⟨h1, _, _⟩ => by
      obtain ⟨gb, lb, b, gL, cL, gF, cF, S, e1, e2⟩ := h1 hok
      exact ⟨gb, lb, b, gL, cL, gF, cF, S, e1, e2, judge_inv _, rfl⟩
    have hn16 : n ≤ 16 := by have := newOk_iff.1 hok.1; omega
    have hk30 : k3 ≤ 30 := by have := many_len hc1; have := ho1.1; omega
    have hlen20 : ∀ x ∈ ops, x.len ≤ 20 := fun x hx => many_one hc1 hx
    replace cM := Lib.hid cM
    replace ho1 := Lib.hid ho1
    replace hok := Lib.hid hok
    replace hc1 := Lib.hid hc1
    replace hlen20 := Lib.hid hlen20
    generalize newGM (LM.new n len) cs ls = gz at *
    go_upto_region 8 with (first | (go_at_call 7; (with_reducible refine cL.out.mono ?_); rintro e w2 ⟨rfl, rfl⟩) | (go_at_call 28; (with_reducible refine cM.out.mono ?_); rintro e w3 ⟨gb, lb, b, gL, cL3, gF, cF, S, rfl, hS3⟩; replace hS3 := Lib.hid hS3))
    go_upto_region 9 with fail
    go_loopw [28] (fun i wr => ∃ (k : Nat) (g : GM), k ≤ k3 ∧ i = .int .i64 (k : Int) ∧ Hid (HLoop w1 S gb lb b gL cL3 gF cF n g wr)) (fun i _ => k3 - (intOf i).toNat)
    case atStart => exact ⟨0, gz, by omega, rfl, hS3⟩
    case round =>
      obtain ⟨k, g, hk, rfl, hS⟩ := hrel
      by_cases hkn : k < k3
      · have kz : (k : Int) < (k3 : Int) := by omega
        have hT := hS.out
        obtain ⟨ob, hob⟩ : ∃ ob, ob = wr.heap.size := ⟨_, rfl⟩
        have hrow := ho1.out.kept hT.hw.blw
        obtain ⟨y, hy⟩ : ∃ y, ops[k]? = some y := ⟨_, List.getElem?_eq_getElem (by have := ho1.out.1; omega)⟩
        obtain ⟨rb, off, rfl, z0, z1, z2, z3, z4, z5, z6⟩ := hrow.at hy
        have hyok := (hrow.2.2.1 y (List.mem_of_getElem? hy)).1
        have hyok1 := (ho1.out.2.2.1 y (List.mem_of_getElem? hy)).1
        have hyl : y.len ≤ 20 := hlen20.out y (List.mem_of_getElem? hy)
        have hyb : y.len = 0 ∨ ∃ r off, y.p = some ⟨r, off, none⟩ ∧ r < w1.heap.size := hyok1.p.2.2.imp id fun ⟨r, off, e, hlt, _⟩ => ⟨r, off, e, hlt⟩
        have hBb : Below wr.heap.size wr (wr.alloc (.cells #[.int .i64 y.Do, .int .i64 y.m, .int .i64 y.c, .int .i64 y.v, .int .i64 y.a, .int .i64 y.b, .slice y.p y.len y.cap] 42)) := (Below.refl _ _).alloc (Nat.le_refl _) _
        have hbx := heap_alloc_new wr (.cells #[.int .i64 y.Do, .int .i64 y.m, .int .i64 y.c, .int .i64 y.v, .int .i64 y.a, .int .i64 y.b, .slice y.p y.len y.cap] 42)
        have hOp := opG_op hT.hw.ok y
        have hInv := hOp.inv hT.inv
        have hnm := hT.nm
        generalize hv : wr.alloc (.cells #[.int .i64 y.Do, .int .i64 y.m, .int .i64 y.c, .int .i64 y.v, .int .i64 y.a, .int .i64 y.b, .slice y.p y.len y.cap] 42) = v at *
        have hnew : wr.heap.size < v.heap.size := obj_lt hbx
        have hN0 : NoteF w1 S gb lb b gL cL3 gF cF g v 0 (.slice none 0 0) v := ⟨hT.hw.below hBb, Below.refl _ _, OwnBo.nil _ _⟩
        have hyok2 := Lib.hid (hyok.kept hBb)
        have hwq : ∃ wq, HW w1 S gb lb b gL cL3 gF cF g wq ∧ Below wq.heap.size wq v ∧ wq.heap.size ≤ wr.heap.size := ⟨wr, hT.hw, hBb, Nat.le_refl _⟩
        replace hwq := Lib.hid hwq
        replace hob := Lib.hid hob
        replace hT := Lib.hid hT
        replace hrow := Lib.hid hrow
        replace hv := Lib.hid hv
        replace hBb := Lib.hid hBb
        replace hbx := Lib.hid hbx
        replace hN0 := Lib.hid hN0
        replace hyok := Lib.hid hyok
        replace hyok1 := Lib.hid hyok1
        replace hyb := Lib.hid hyb
        replace hy := Lib.hid hy
        replace hOp := Lib.hid hOp
        replace hInv := Lib.hid hInv
        replace hnm := Lib.hid hnm
        go_upto_region 12 with (fail)
        change Code.wp _ _ _ _ (wr.alloc (.cells #[.int .i64 y.Do, .int .i64 y.m, .int .i64 y.c, .int .i64 y.v, .int .i64 y.a, .int .i64 y.b, .slice y.p y.len y.cap] 42))
        rw [hv.out]
        clear z0 z1 z2 z3 z4 z5 z6
        go_upto_region 13 with (fail)
        go_loopw [10, 34] (fun u i wz => ∃ m : Nat, m ≤ n ∧ i = .int .i64 (m : Int) ∧ Hid (NoteF w1 S gb lb b gL cL3 gF cF g v m u wz)) (fun _ i _ => n - (intOf i).toNat)
        case atStart => exact ⟨0, by omega, rfl, hN0⟩
        case round =>
          obtain ⟨m, hm, rfl, hN⟩ := hrel
          by_cases hmn : m < n
          · have mz : (m : Int) < (n : Int) := by omega
            have hFl := hN.out.hw.flagged (m : Int)
            obtain ⟨v', w', hrun, hN2⟩ := hN.out.app (by omega)
            obtain ⟨up, uc, hu⟩ := hN.out.own.shape
            rw [flagL_len] at hu
            subst hu
            replace hFl := Lib.hid hFl
            replace hrun := Lib.hid hrun
            replace hN2 := Lib.hid hN2
            generalize g.flagged (m : Int) = F at *
            go_wp2_with (first | (go_at_call 27; (with_reducible refine hFl.out.mono ?_); rintro e w4 ⟨rfl, rfl⟩) | (at_builtin; refine wpList_run rfl (.tmp 37) (.tmp 41) 54 54 rfl _ _ _ _ rfl rfl hrun.out ?_))
            go_roundw
            case rel => exact ⟨m + 1, by omega, by go_num, hN2⟩
            case measure => simp [intOf]; omega
          · obtain rfl : m = n := by omega
            have mz : ¬ (m : Int) < (m : Int) := by omega
            obtain ⟨up, uc, hu⟩ := hN.out.own.shape
            rw [flagL_len] at hu
            subst hu
            have hbw := (hN.out.blw.block _ hnew).trans hbx.out
            have hD := hN.out.op (o := y) hnew hbw hwq.out (hyok2.out.kept hN.out.blw) hyb.out (by omega)
            have y0 := obj_cell (i := 0) hbw rfl
            have y1 := obj_cell (i := 1) hbw rfl
            have y2 := obj_cell (i := 2) hbw rfl
            have y3 := obj_cell (i := 3) hbw rfl
            have y4 := obj_cell (i := 4) hbw rfl
            have y5 := obj_cell (i := 5) hbw rfl
            have y6 := obj_cell (i := 6) hbw rfl
            replace hbw := Lib.hid hbw
            obtain ⟨R, hR⟩ : ∃ R, opG g y = R := ⟨_, rfl⟩
            rw [hR] at hD
            have hOp := Lib.hid (hR ▸ hOp.out)
            have hInv := Lib.hid (hR ▸ hInv.out)
            have hnmR : Hid (R.2.l.nm = m) := Lib.hid (hOp.out.like.1.trans hnm.out)
            replace hR := Lib.hid hR
            rw [← hob.out] at hD y0 y1 y2 y3 y4 y5 y6
            rw [← hob.out]
            unfold GOp.arr at hD
            replace hD := Lib.hid hD
            by_cases d0 : y.Do = 0
            · have hne := hOp.out.risk d0
              have hz10 : (R.1 == 10) = false := by simpa using hne
              have hz0 : (y.Do == 0) = true := by simpa using d0
              replace hne := Lib.hid hne
              replace d0 := Lib.hid d0
              go_upto_region 18 with (first | (go_at_call 12; (with_reducible refine hD.out.mono ?_); rintro e w4 ⟨rfl, hP4⟩))
              have f0 : w4.cell? ⟨ob, 0, none⟩ = some (.int .i64 y.Do) := obj_cell hP4.box rfl
              replace hP4 := Lib.hid hP4
              clear y0 y1 y2 y3 y4 y5 y6
              go_upto_region 21 with fail
              go_loopw [56] (fun i wz => ∃ j : Nat, j ≤ m ∧ i = .int .i64 (j : Int) ∧ Hid (PastF w1 S gb lb b gL cL3 gF cF g R.2 v.heap.size m ob y (.slice up m uc) wz)) (fun i _ => m - (intOf i).toNat)
              case atStart => exact ⟨0, by omega, rfl, hP4⟩
              case round =>
                obtain ⟨j, hj, rfl, hP⟩ := hrel
                by_cases hjm : j < m
                · have jz : (j : Int) < (m : Int) := by omega
                  have hFl := hP.out.hw.flagged (j : Int)
                  have hFa := hP.out.fails (j : Int)
                  have hin := hInv.out j (by rw [hnmR.out]; exact hjm)
                  have hfn : R.2.flagged (j : Int) = R.2.fl j := flagged_nat (by rw [hnmR.out]; exact hjm)
                  have hgn : g.flagged (j : Int) = g.fl j := flagged_nat (by rw [hnm.out]; exact hjm)
                  have hflag := hOp.out.flag j (by rw [hnm.out]; exact hjm)
                  rw [← hfn] at hin hflag
                  rw [← hgn] at hflag
                  have f0 : wr.cell? ⟨ob, 0, none⟩ = some (.int .i64 y.Do) := obj_cell hP.out.box rfl
                  obtain ⟨g0, cap0, hv0, hcell⟩ := hP.out.own.cell (flagL_at g hjm)
                  rw [flagL_len] at hv0
                  injection hv0 with e1 e2 e3
                  clear hfn hgn e2
                  cases hF2 : R.2.flagged (j : Int) with
                  | false =>
                    rw [hF2] at hFl
                    rw [hin hF2] at hFa
                    replace hF2 := Lib.hid hF2
                    replace hFl := Lib.hid hFl
                    replace hFa := Lib.hid hFa
                    replace hin := Lib.hid hin
                    replace hflag := Lib.hid hflag
                    replace e1 := Lib.hid e1
                    clear e3
                    go_wp2_with (first | (go_at_call 27; (with_reducible refine hFl.out.mono ?_); rintro e w5 ⟨rfl, rfl⟩) | (go_at_call 22; (with_reducible refine hFa.out.mono ?_); rintro e w6 ⟨rfl, hP6⟩; replace hP6 := Lib.hid hP6))
                    go_roundw
                    case rel => exact ⟨j + 1, by omega, by go_num, hP6⟩
                    case measure => simp [intOf]; omega
                  | true =>
                    rw [hF2] at hFl
                    subst e1
                    cases hW : g.flagged (j : Int) with
                    | true =>
                      rw [hW] at hcell
                      replace hF2 := Lib.hid hF2
                      replace hW := Lib.hid hW
                      replace hFl := Lib.hid hFl
                      replace hFa := Lib.hid hFa
                      replace hin := Lib.hid hin
                      replace hflag := Lib.hid hflag
                      clear e3
                      go_wp2_with (first | (go_at_call 27; (with_reducible refine hFl.out.mono ?_); rintro e w5 ⟨rfl, rfl⟩))
                      go_roundw
                      case rel => exact ⟨j + 1, by omega, by go_num, hP⟩
                      case measure => simp [intOf]; omega
                    | false =>
                      rw [hW] at hcell
                      have hd := hflag hF2 hW
                      replace hF2 := Lib.hid hF2
                      replace hW := Lib.hid hW
                      replace hFl := Lib.hid hFl
                      replace hFa := Lib.hid hFa
                      replace hin := Lib.hid hin
                      replace hflag := Lib.hid hflag
                      clear e3
                      rcases hd with d | d | d | d
                      all_goals
                        rw [d] at f0
                        replace d := Lib.hid d
                        go_wp2_with (first | (go_at_call 27; (with_reducible refine hFl.out.mono ?_); rintro e w5 ⟨rfl, rfl⟩))
                        go_roundw
                        case rel => exact ⟨j + 1, by omega, by go_num, hP⟩
                        case measure => simp [intOf]; omega
                · obtain rfl : j = m := by omega
                  have jz : ¬ (j : Int) < (j : Int) := by omega
                  have hEnd : HLoop w1 S gb lb b gL cL3 gF cF j R.2 wr := ⟨hP.out.hw, hInv.out, hnmR.out⟩
                  replace hEnd := Lib.hid hEnd
                  go_wp2_with fail
                  go_roundw
                  case rel => exact ⟨k + 1, R.2, by omega, by go_num, hEnd⟩
                  case measure => simp [intOf]; omega
            · have hz0 : (y.Do == 0) = false := by simpa using d0
              replace d0 := Lib.hid d0
              go_upto_region 18 with (first | (go_at_call 12; (with_reducible refine hD.out.mono ?_); rintro e w4 ⟨rfl, hP4⟩))
              have f0 : w4.cell? ⟨ob, 0, none⟩ = some (.int .i64 y.Do) := obj_cell hP4.box rfl
              replace hP4 := Lib.hid hP4
              clear y0 y1 y2 y3 y4 y5 y6
              go_upto_region 21 with fail
              go_loopw [56] (fun i wz => ∃ j : Nat, j ≤ m ∧ i = .int .i64 (j : Int) ∧ Hid (PastF w1 S gb lb b gL cL3 gF cF g R.2 v.heap.size m ob y (.slice up m uc) wz)) (fun i _ => m - (intOf i).toNat)
              case atStart => exact ⟨0, by omega, rfl, hP4⟩
              case round =>
                obtain ⟨j, hj, rfl, hP⟩ := hrel
                by_cases hjm : j < m
                · have jz : (j : Int) < (m : Int) := by omega
                  have hFl := hP.out.hw.flagged (j : Int)
                  have hFa := hP.out.fails (j : Int)
                  have hin := hInv.out j (by rw [hnmR.out]; exact hjm)
                  have hfn : R.2.flagged (j : Int) = R.2.fl j := flagged_nat (by rw [hnmR.out]; exact hjm)
                  have hgn : g.flagged (j : Int) = g.fl j := flagged_nat (by rw [hnm.out]; exact hjm)
                  have hflag := hOp.out.flag j (by rw [hnm.out]; exact hjm)
                  rw [← hfn] at hin hflag
                  rw [← hgn] at hflag
                  have f0 : wr.cell? ⟨ob, 0, none⟩ = some (.int .i64 y.Do) := obj_cell hP.out.box rfl
                  obtain ⟨g0, cap0, hv0, hcell⟩ := hP.out.own.cell (flagL_at g hjm)
                  rw [flagL_len] at hv0
                  injection hv0 with e1 e2 e3
                  clear hfn hgn e2
                  cases hF2 : R.2.flagged (j : Int) with
                  | false =>
                    rw [hF2] at hFl
                    rw [hin hF2] at hFa
                    replace hF2 := Lib.hid hF2
                    replace hFl := Lib.hid hFl
                    replace hFa := Lib.hid hFa
                    replace hin := Lib.hid hin
                    replace hflag := Lib.hid hflag
                    replace e1 := Lib.hid e1
                    clear e3
                    go_wp2_with (first | (go_at_call 27; (with_reducible refine hFl.out.mono ?_); rintro e w5 ⟨rfl, rfl⟩) | (go_at_call 22; (with_reducible refine hFa.out.mono ?_); rintro e w6 ⟨rfl, hP6⟩; replace hP6 := Lib.hid hP6))
                    go_roundw
                    case rel => exact ⟨j + 1, by omega, by go_num, hP6⟩
                    case measure => simp [intOf]; omega
                  | true =>
                    rw [hF2] at hFl
                    subst e1
                    cases hW : g.flagged (j : Int) with
                    | true =>
                      rw [hW] at hcell
                      replace hF2 := Lib.hid hF2
                      replace hW := Lib.hid hW
                      replace hFl := Lib.hid hFl
                      replace hFa := Lib.hid hFa
                      replace hin := Lib.hid hin
                      replace hflag := Lib.hid hflag
                      clear e3
                      go_wp2_with (first | (go_at_call 27; (with_reducible refine hFl.out.mono ?_); rintro e w5 ⟨rfl, rfl⟩))
                      go_roundw
                      case rel => exact ⟨j + 1, by omega, by go_num, hP⟩
                      case measure => simp [intOf]; omega
                    | false =>
                      rw [hW] at hcell
                      have hd := hflag hF2 hW
                      replace hF2 := Lib.hid hF2
                      replace hW := Lib.hid hW
                      replace hFl := Lib.hid hFl
                      replace hFa := Lib.hid hFa
                      replace hin := Lib.hid hin
                      replace hflag := Lib.hid hflag
                      clear e3
                      rcases hd with d | d | d | d
                      all_goals
                        rw [d] at f0
                        replace d := Lib.hid d
                        go_wp2_with (first | (go_at_call 27; (with_reducible refine hFl.out.mono ?_); rintro e w5 ⟨rfl, rfl⟩))
                        go_roundw
                        case rel => exact ⟨j + 1, by omega, by go_num, hP⟩
                        case measure => simp [intOf]; omega
                · obtain rfl : j = m := by omega
                  have jz : ¬ (j : Int) < (j : Int) := by omega
                  have hEnd : HLoop w1 S gb lb b gL cL3 gF cF j R.2 wr := ⟨hP.out.hw, hInv.out, hnmR.out⟩
                  replace hEnd := Lib.hid hEnd
                  go_wp2_with fail
                  go_roundw
                  case rel => exact ⟨k + 1, R.2, by omega, by go_num, hEnd⟩
                  case measure => simp [intOf]; omega
      · obtain rfl : k = k3 := by omega
        have kz : ¬ (k : Int) < (k : Int) := by omega
        go_wp2_with fail
        go_ret
        exact ⟨rfl, hB1.out.trans (hS.out.hw.blw.mono hB1.out.size)⟩
  · replace cM : Calls Tryz.prog 28 #[.slice p len cap, .slice q n c2] w1 fun e w' => e = .returned (.pointer none) ∧ Below w1.heap.size w1 w' := cM.mono fun e w' ⟨_, h2, h3⟩ => ⟨h2 hok, h3⟩
    replace cM := Lib.hid cM
    replace ho1 := Lib.hid ho1
    replace hok := Lib.hid hok
    go_wp2_with (first | (go_at_call 7; (with_reducible refine cL.out.mono ?_); rintro e w2 ⟨rfl, rfl⟩) | (go_at_call 28; (with_reducible refine cM.out.mono ?_); rintro e w3 ⟨rfl, hb3⟩; replace hb3 := Lib.hid hb3))
    go_ret
    exact ⟨rfl, hB1.out.trans (hb3.out.mono hB1.out.size)⟩
end Go.Proofs.YtljclgphgojphaaGreat
