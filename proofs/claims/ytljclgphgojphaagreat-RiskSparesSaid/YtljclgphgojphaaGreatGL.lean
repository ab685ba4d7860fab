/- While a member is flagged nothing but a pay-in, Take and Swap touches its balances: the law's walk. -/
import Derived.Test.YtljclgphgojphaaGreatGM
namespace Go.Proofs.YtljclgphgojphaaGreat
open Go.RowKit
set_option linter.unusedVariables false

section
variable {wb : World} {S : Nat → Prop} {gb lb b gL cL gF cF : Nat} {g : GM} {w0 wq wr wz : World} {k n nc : Nat} {v11 v12 : Value} {o : GOp}
/-- an operation of the law's; what is new since stays -/
theorem HW.opK (hq : HW wb S gb lb b gL cL gF cF g wq) (hb2 : Below wq.heap.size wq wr) (ho : o.Ok wr) (hbl : o.len = 0 ∨ ∃ r off, o.p = some ⟨r, off, none⟩ ∧ r < wb.heap.size) (hlen : o.len ≤ 30) :
    Calls Tryz.prog 12 #[.pointer (some ⟨gb, 0, none⟩), .agg o.arr] wr fun e w' => e = .returned (.int .i64 (opG g o).1) ∧ HW wb S gb lb b gL cL gF cF (opG g o).2 w' ∧ ∀ j, wq.heap.size ≤ j → j < wr.heap.size → w'.heap[j]? = wr.heap[j]? := by
  have hqw := hq.blw
  obtain ⟨⟨G, g1, g2⟩, g3⟩ := hq
  have hs := hb2.size
  have hFlt := g1.fr.lt
  have gg : GG (fun j => G j ∨ (wq.heap.size ≤ j ∧ j < wr.heap.size)) S gb lb b gL cL gF cF g wr := GS.more g1 hb2 (fun j hj => ⟨fun e => e.resolve_right (by omega), .inl⟩) (fun j hj => by
    rcases hj with hj | hj
    · exact Nat.lt_of_lt_of_le (g1.st.lt j hj) hs
    · exact hj.2)
  have hrow : PRowG (fun j => G j ∨ (wq.heap.size ≤ j ∧ j < wr.heap.size)) wr o.p o.len o.ps := ⟨ho.p, hbl.imp id fun ⟨r, off, e, hr⟩ => ⟨r, off, e, .inl (g2 r hr).1⟩⟩
  refine (gdo_any g o wr gg ho.m ho.c ho.a ho.b hrow hlen).mono ?_
  rintro e w' ⟨e1, e2, e3⟩
  have hbw := hqw.trans (hb2.mono hqw.size)
  exact ⟨e1, ⟨⟨_, e2, fun j hj => ⟨.inl (g2 j hj).1, (g2 j hj).2⟩⟩, hbw.trans (e3.below hbw.size fun j hj e => by
    rcases e with e | e
    · exact e (.inl (g2 j hj).1)
    · exact (g2 j hj).2 e)⟩, fun j h1 h2 => e3.block j h2 fun e => by
    rcases e with e | e
    · exact e (.inr ⟨h1, h2⟩)
    · omega⟩
def rowL (g : GM) (m k : Nat) : List Int := (List.range k).map fun c : Nat => g.l.get (m : Int) (c : Int)
theorem rowL_succ (g : GM) (m k : Nat) : rowL g m (k + 1) = rowL g m k ++ [g.l.get (m : Int) (k : Int)] := by unfold rowL; rw [List.range_succ, List.map_append]; rfl
theorem rowL_len (g : GM) (m k : Nat) : (rowL g m k).length = k := by unfold rowL; simp
theorem rowL_in {g : GM} (h : g.l.Good) (m k : Nat) : ∀ x ∈ rowL g m k, In64 x := fun x hx => by
  unfold rowL at hx
  obtain ⟨c, _, rfl⟩ := List.mem_map.1 hx
  exact get_in h _ _
/-- the balances and the flags are noted: the first k members' -/
structure NoteS (wb : World) (S : Nat → Prop) (gb lb b gL cL gF cF : Nat) (g : GM) (nc : Nat) (w0 : World) (k : Nat) (v11 v12 : Value) (wr : World) : Prop where
  hw0 : HW wb S gb lb b gL cL gF cF g w0
  blw : Below w0.heap.size w0 wr
  fl : OwnBo w0.heap.size wr v12 (flagL g k)
  rows : ∃ rv : Nat → Value, OwnR w0.heap.size wr v11 ((List.range k).map rv) ∧ ∀ m, m < k → OwnI w0.heap.size wr (rv m) (rowL g m nc)
theorem NoteS.hw (h : NoteS wb S gb lb b gL cL gF cF g nc w0 k v11 v12 wr) : HW wb S gb lb b gL cL gF cF g wr := h.hw0.below h.blw
theorem NoteS.below (h : NoteS wb S gb lb b gL cL gF cF g nc w0 k v11 v12 wr) (hb : Below wr.heap.size wr wz) : NoteS wb S gb lb b gL cL gF cF g nc w0 k v11 v12 wz := by
  obtain ⟨rv, h1, h2⟩ := h.rows
  exact ⟨h.hw0, h.blw.trans (hb.mono h.blw.size), h.fl.block fun j hj => hb.block j (h.fl.lt j hj).2, rv, h1.block fun j hj => hb.block j (h1.lt j hj).2, fun m hm => (h2 m hm).block fun j hj => hb.block j ((h2 m hm).lt j hj).2⟩
/-- a member's balances are noted: the first c of them -/
structure NoteR (wb : World) (S : Nat → Prop) (gb lb b gL cL gF cF : Nat) (g : GM) (w3 : World) (m c : Nat) (u : Value) (wr : World) : Prop where
  hw3 : HW wb S gb lb b gL cL gF cF g w3
  blw : Below w3.heap.size w3 wr
  own : OwnI w3.heap.size wr u (rowL g m c)
theorem NoteR.hw {w3 : World} {m c : Nat} {u : Value} (h : NoteR wb S gb lb b gL cL gF cF g w3 m c u wr) : HW wb S gb lb b gL cL gF cF g wr := h.hw3.below h.blw
theorem OwnI.nil (B : Nat) (w : World) : OwnI B w (.slice none 0 0) [] := World.ownsRow_nil w B 2 1
theorem OwnR.nil (B : Nat) (w : World) : OwnR B w (.slice none 0 0) [] := World.ownsRow_nil w B 62 1
theorem NoteR.app {w3 : World} {m c : Nat} {u : Value} (h : NoteR wb S gb lb b gL cL gF cF g w3 m c u wr) (hc : c ≤ 100) : ∃ v' w', (Builtin.append_ #[62, 62] 62 #[u, .slice (some ⟨wr.heap.size, 0, none⟩) 1 1]).run Tryz.prog (wr.alloc (.cells #[.int .i64 (g.l.get (m : Int) (c : Int))] 2)) = .ok v' w' ∧ NoteR wb S gb lb b gL cL gF cF g w3 m (c + 1) v' w' := by
  have hb : Below wr.heap.size wr (wr.alloc (.cells #[.int .i64 (g.l.get (m : Int) (c : Int))] 2)) := (Below.refl _ _).alloc (Nat.le_refl _) _
  obtain ⟨v', w', h1, h2, h3, _⟩ := appX_run (wr.alloc (.cells #[.int .i64 (g.l.get (m : Int) (c : Int))] 2)) w3.heap.size u (rowL g m c) (h.own.block fun j hj => hb.block j (h.own.lt j hj).2) (by have := h.blw.size; simp; omega) ⟨wr.heap.size, 0, none⟩ (g.l.get (m : Int) (c : Int)) (obj_cell (heap_alloc_new wr _) rfl) (by rw [rowL_len]; omega)
  exact ⟨v', w', h1, h.hw3, (h.blw.alloc h.blw.size _).grown h3 (by have := h.blw.size; simp; omega) (fun j hj => (h.own.lt j hj).1), by rw [rowL_succ]; exact h2⟩
/-- a row's value is of one cell -/
theorem OwnI.one {B : Nat} {w : World} {v : Value} {l : List Int} (h : OwnI B w v l) : v.oneCell' = true := by
  obtain ⟨p, c, rfl⟩ := h.shape
  rfl
set_option maxRecDepth 100000 in
theorem NoteS.two {u : Value} (h : NoteS wb S gb lb b gL cL gF cF g nc w0 k v11 v12 wr) (hu : OwnI w0.heap.size wr u (rowL g k nc)) (hk : k ≤ 100) : ∃ v1 w2, (Builtin.append_ #[61, 61] 61 #[v11, .slice (some ⟨wr.heap.size, 0, none⟩) 1 1]).run Tryz.prog (wr.alloc (.cells #[u] 62)) = .ok v1 w2 ∧ HW wb S gb lb b gL cL gF cF g w2 ∧
    ∃ v2 w4, (Builtin.append_ #[54, 54] 54 #[v12, .slice (some ⟨w2.heap.size, 0, none⟩) 1 1]).run Tryz.prog (w2.alloc (.cells #[.bool (g.flagged (k : Int))] 4)) = .ok v2 w4 ∧ NoteS wb S gb lb b gL cL gF cF g nc w0 (k + 1) v1 v2 w4 := by
  obtain ⟨rv, h1, h2⟩ := h.rows
  have hs0 := h.blw.size
  have hb : Below wr.heap.size wr (wr.alloc (.cells #[u] 62)) := (Below.refl _ _).alloc (Nat.le_refl _) _
  obtain ⟨v1, w2, a1, a2, a3⟩ := appR_run (wr.alloc (.cells #[u] 62)) w0.heap.size v11 ((List.range k).map rv) (h1.block fun j hj => hb.block j (h1.lt j hj).2) (by simp; omega) ⟨wr.heap.size, 0, none⟩ u (obj_cell (heap_alloc_new wr _) rfl) hu.one (by simp; omega)
  have hB2 : Below w0.heap.size w0 w2 := (h.blw.alloc hs0 _).grown a3 (by simp; omega) (fun j hj => (h1.lt j hj).1)
  -- what the first append leaves: other kinds of blocks
  have hk1 : ∀ (j : Nat) (cs : Array Value) (ty : TypeId), wr.heap[j]? = some (.cells cs ty (0, 0)) → ty ≠ 62 → w2.heap[j]? = wr.heap[j]? := fun j cs ty hj hty => by
    have hjl := obj_lt hj
    refine (a3.block j (Nat.lt_of_lt_of_le hjl hb.size) fun e => ?_).trans (hb.block j hjl)
    rcases h1.2 with ⟨ev, _⟩ | ⟨g1, cap, cur, ev, _, hh, _⟩
    · rw [ev] at e; cases e
    · rw [ev] at e
      injection e with e
      rw [e] at hj
      rw [hj] at hh
      injection hh with hh
      injection hh with _ e3 _
      exact hty e3
  have hflk : OwnBo w0.heap.size w2 v12 (flagL g k) := h.fl.block fun j hj => by
    rcases h.fl.2 with ⟨ev, _⟩ | ⟨g1, cap, cur, ev, _, hh, _⟩
    · rw [ev] at hj; cases hj
    · rw [ev] at hj; injection hj with hj; subst hj; exact hk1 _ _ _ hh (by decide)
  have hOI : ∀ (x : Value) (l : List Int), OwnI w0.heap.size wr x l → OwnI w0.heap.size w2 x l := fun x l hx => hx.block fun j hj => by
    obtain ⟨cs, hcs⟩ := hx.obj hj
    exact hk1 _ _ _ hcs (by decide)
  have hs2 : w0.heap.size ≤ w2.heap.size := hB2.size
  have hb2 : Below w2.heap.size w2 (w2.alloc (.cells #[.bool (g.flagged (k : Int))] 4)) := (Below.refl _ _).alloc (Nat.le_refl _) _
  obtain ⟨v2, w4, c1, c2, c3⟩ := appBo_run (w2.alloc (.cells #[.bool (g.flagged (k : Int))] 4)) w0.heap.size v12 (flagL g k) (hflk.block fun j hj => hb2.block j (hflk.lt j hj).2) (by simp; omega) ⟨w2.heap.size, 0, none⟩ (g.flagged (k : Int)) (obj_cell (heap_alloc_new w2 _) rfl) (by rw [flagL_len]; omega)
  have hB4 : Below w0.heap.size w0 w4 := (hB2.alloc hs2 _).grown c3 (by simp; omega) (fun j hj => (h.fl.lt j hj).1)
  have hk2 : ∀ (j : Nat) (cs : Array Value) (ty : TypeId), w2.heap[j]? = some (.cells cs ty (0, 0)) → ty ≠ 4 → w4.heap[j]? = w2.heap[j]? := fun j cs ty hj hty => by
    have hjl := obj_lt hj
    refine (c3.block j (Nat.lt_of_lt_of_le hjl hb2.size) fun e => ?_).trans (hb2.block j hjl)
    rcases hflk.2 with ⟨ev, _⟩ | ⟨g1, cap, cur, ev, _, hh, _⟩
    · rw [ev] at e; cases e
    · rw [ev] at e
      injection e with e
      rw [e] at hj
      rw [hj] at hh
      injection hh with hh
      injection hh with _ e3 _
      exact hty e3
  refine ⟨v1, w2, a1, h.hw0.below hB2, v2, w4, c1, h.hw0, hB4, by rw [flagL_succ]; exact c2, fun m => if m = k then u else rv m, ?_, fun m hm => ?_⟩
  · have e : (List.range (k + 1)).map (fun m => if m = k then u else rv m) = (List.range k).map rv ++ [u] := by
      rw [List.range_succ, List.map_append]
      congr 1
      · exact List.map_congr_left fun m hm => if_neg (by have := List.mem_range.1 hm; omega)
      · simp
    rw [e]
    refine OwnR.block a2 fun j hj => ?_
    rcases a2.2 with ⟨ev, _⟩ | ⟨g1, cap, cur, ev, _, hh, _⟩
    · rw [ev] at hj; cases hj
    · rw [ev] at hj; injection hj with hj; subst hj; exact hk2 _ _ _ hh (by decide)
  · have hI : OwnI w0.heap.size w2 (if m = k then u else rv m) (rowL g m nc) := by
      by_cases e : m = k
      · subst e; rw [if_pos rfl]; exact hOI _ _ hu
      · rw [if_neg e]; exact hOI _ _ (h2 m (by omega))
    exact hI.block fun j hj => by
      obtain ⟨cs, hcs⟩ := hI.obj hj
      exact hk2 _ _ _ hcs (by decide)
/-- what was noted is read -/
theorem NoteS.read (h : NoteS wb S gb lb b gL cL gF cF g nc w0 k v11 v12 wr) {m c : Nat} (hm : m < k) (hc : c < nc) (hn : nc ≤ 1000) : ∃ g11 c11 gm cm g12 c12, v11 = .slice (some ⟨g11, 0, none⟩) k c11 ∧ wr.cell? ⟨g11, m, none⟩ = some (.slice (some ⟨gm, 0, none⟩) nc cm) ∧ wr.cell? ⟨gm, c, none⟩ = some (.int .i64 (g.l.get (m : Int) (c : Int))) ∧
    v12 = .slice (some ⟨g12, 0, none⟩) k c12 ∧ wr.cell? ⟨g12, m, none⟩ = some (.bool (g.flagged (m : Int))) ∧ w0.heap.size ≤ g11 ∧ w0.heap.size ≤ gm ∧ w0.heap.size ≤ g12 := by
  obtain ⟨rv, h1, h2⟩ := h.rows
  obtain ⟨g11, c11, cs, e11, hg11, hh, hat⟩ := h1.rows (by intro e; have := congrArg List.length e; simp at this; omega)
  rw [List.length_map, List.length_range] at e11
  have hcr : cs[m]? = some (rv m) := hat m (rv m) (by rw [List.getElem?_map, List.getElem?_range hm]; rfl)
  have hI := h2 m hm
  obtain ⟨p, cm, ep⟩ := hI.shape
  rw [rowL_len] at ep
  have hsq := hI
  rw [ep] at hsq
  have hsq2 := OwnI.seq (p := p) (cap := cm) (l := rowL g m nc) (by rw [rowL_len]; exact hsq) (rowL_in h.hw.ok.good m nc) (by rw [rowL_len]; omega)
  rw [rowL_len] at hsq2
  obtain ⟨gm, off, e2, _, hcell⟩ := hsq2.2.2.2.resolve_left (by omega)
  rcases hI.2 with ⟨ev, h0⟩ | ⟨gm', cap', cur', ev, hgm, hh', _⟩
  · rw [rowL_len] at h0; omega
  rw [ep] at ev
  injection ev with ev1 ev2 ev3
  rw [e2] at ev1
  injection ev1 with ev1
  injection ev1 with ev1 ev4
  subst ev1; subst ev4
  have hx := hcell c hc
  rw [Nat.zero_add] at hx
  have hget : (rowL g m nc).getD c 0 = g.l.get (m : Int) (c : Int) := by unfold rowL; rw [range_getD hc]
  rw [hget] at hx
  obtain ⟨g12, c12, e12, hf⟩ := h.fl.cell (flagL_at g hm)
  rw [flagL_len] at e12
  refine ⟨g11, c11, gm, cm, g12, c12, e11, ?_, hx, e12, hf, hg11, hgm, (h.fl.lt g12 (by rw [e12]; rfl)).1⟩
  have := obj_cell hh hcr
  rw [ep, e2] at this
  exact this
end
theorem ledger_any {wb wr : World} {S : Nat → Prop} {gb lb b gL cL gF cF : Nat} {g : GM} (h : HW wb S gb lb b gL cL gF cF g wr) : Calls Tryz.prog 29 #[.pointer (some ⟨gb, 0, none⟩)] wr fun e w' => e = .returned (.pointer (some ⟨lb, 0, none⟩)) ∧ wr = w' := by
  obtain ⟨⟨G, h1, h2⟩, h3⟩ := h
  have c0 := GS.c0 h1
  clear h1 h2 h3
  go_enter Tryz.func29, Tryz.ntmps29
  go_wp2_with fail
  go_ret
  exact ⟨rfl, rfl⟩
/-- between the law's operations -/
structure SLoop (wb : World) (S : Nat → Prop) (gb lb b gL cL gF cF : Nat) (n nc : Nat) (g : GM) (wr : World) : Prop where
  hw : HW wb S gb lb b gL cL gF cF g wr
  nm : g.l.nm = n
  nc : g.l.nc = nc
set_option maxHeartbeats 8000000 in
set_option maxRecDepth 100000 in
theorem riskSpares_any (p : Option Addr) (len cap : Nat) (cs : List Cur) (q : Option Addr) (n c2 : Nat) (ls : List LV) (r : Option Addr) (k3 c3 : Nat) (ops : List GOp) (w : World) (hT : Tab w p len cs) (hl : LRow w q n ls) (ho : OpsW w r k3 ops) :
    Calls Tryz.prog 5 #[.slice p len cap, .slice q n c2, .slice r k3 c3] w fun e w' => e = .returned (.bool true) ∧ Below w.heap.size w w' := by
  have hA := Lib.hid (awake_any w)
  have hlm : len ≤ 140737488351232 := hT.2.2.1
  replace hT := Lib.hid hT
  replace hl := Lib.hid hl
  replace ho := Lib.hid ho
  go_enter Tryz.func5, Tryz.ntmps5
  go_upto_region 3 with (first | (go_at_call 6; (with_reducible refine hA.out.mono ?_); rintro e w1 ⟨rfl, hB1⟩))
  have hT1 := hT.out.kept hB1
  have hl1 := hl.out.kept hB1
  have ho1 := ho.out.kept hB1
  have cL := large_any p len cap q n c2 ls r k3 c3 ops w1 hlm hl1 ho1
  have cM := made_any p len cap cs q n c2 ls w1 hT1 hl1
  replace hB1 := Lib.hid hB1
  replace hT1 := Lib.hid hT1
  replace hl1 := Lib.hid hl1
  cases hc1 : manyG ls ops len with
  | true =>
    rw [hc1] at cL
    replace cL := Lib.hid cL
    replace ho1 := Lib.hid ho1
    replace cM := Lib.hid cM
    go_wp2_with (first | (go_at_call 7; (with_reducible refine cL.out.mono ?_); rintro e w2 ⟨rfl, rfl⟩))
    go_ret
    exact ⟨rfl, hB1.out⟩
  | false =>
  rw [hc1] at cL
  replace cL := Lib.hid cL
  by_cases hok : newOk (n : Int) (len : Int) = true ∧ chkT cs = 0 ∧ limsOk ls n len = true
  · replace cM : Calls Tryz.prog 28 #[.slice p len cap, .slice q n c2] w1 fun e w' => ∃ gb lb b gL cL gF cF S, e = .returned (.pointer (some ⟨gb, 0, none⟩)) ∧ SLoop w1 S gb lb b gL cL gF cF n len (newGM (LM.new n len) cs ls) w' := cM.mono fun e w' ⟨h1, _, _⟩ => by
      obtain ⟨gb, lb, b, gL, cL, gF, cF, S, e1, e2⟩ := h1 hok
      exact ⟨gb, lb, b, gL, cL, gF, cF, S, e1, e2, rfl, rfl⟩
    have hn16 : n ≤ 16 := by have := newOk_iff.1 hok.1; omega
    have hn8 : len ≤ 8 := by have := newOk_iff.1 hok.1; omega
    have hk30 : k3 ≤ 30 := by have := many_len hc1; have := ho1.1; omega
    have hlen20 : ∀ x ∈ ops, x.len ≤ 20 := fun x hx => many_one hc1 hx
    replace cM := Lib.hid cM
    replace ho1 := Lib.hid ho1
    replace hok := Lib.hid hok
    replace hc1 := Lib.hid hc1
    replace hlen20 := Lib.hid hlen20
    generalize newGM (LM.new n len) cs ls = gz at *
    go_upto_region 8 with (first | (go_at_call 7; (with_reducible refine cL.out.mono ?_); rintro e w2 ⟨rfl, rfl⟩) | (go_at_call 28; (with_reducible refine cM.out.mono ?_); rintro e w3 ⟨gb, lb, b, gL, cL3, gF, cF, S, rfl, hS3⟩))
    have cLd := Lib.hid (ledger_any hS3.hw)
    replace hS3 := Lib.hid hS3
    go_upto_region 12 with (first | (go_at_call 29; (with_reducible refine cLd.out.mono ?_); rintro e w4 ⟨rfl, rfl⟩))
    go_loopw [37] (fun i wr => ∃ (k : Nat) (g : GM), k ≤ k3 ∧ i = .int .i64 (k : Int) ∧ Hid (SLoop w1 S gb lb b gL cL3 gF cF n len g wr)) (fun i _ => k3 - (intOf i).toNat)
    case atStart => exact ⟨0, gz, by omega, rfl, hS3⟩
    case round =>
      obtain ⟨k, g, hk, rfl, hS⟩ := hrel
      by_cases hkn : k < k3
      · have kz : (k : Int) < (k3 : Int) := by omega
        have hT := hS.out
        obtain ⟨ob, hob⟩ : ∃ ob, ob = wr.heap.size := ⟨_, rfl⟩
        have hrow := ho1.out.kept hT.hw.blw
        obtain ⟨y, hy⟩ : ∃ y, ops[k]? = some y := ⟨_, List.getElem?_eq_getElem (by have := ho1.out.1; omega)⟩
        obtain ⟨rb, off, rfl, z0, z1, z2, z3, z4, z5, z6⟩ := hrow.at hy
        have hyok := (hrow.2.2.1 y (List.mem_of_getElem? hy)).1
        have hyok1 := (ho1.out.2.2.1 y (List.mem_of_getElem? hy)).1
        have hyl : y.len ≤ 20 := hlen20.out y (List.mem_of_getElem? hy)
        have hyb : y.len = 0 ∨ ∃ r off, y.p = some ⟨r, off, none⟩ ∧ r < w1.heap.size := hyok1.p.2.2.imp id fun ⟨r, off, e, hlt, _⟩ => ⟨r, off, e, hlt⟩
        have hBb : Below wr.heap.size wr (wr.alloc (.cells #[.int .i64 y.Do, .int .i64 y.m, .int .i64 y.c, .int .i64 y.v, .int .i64 y.a, .int .i64 y.b, .slice y.p y.len y.cap] 42)) := (Below.refl _ _).alloc (Nat.le_refl _) _
        have hbx := heap_alloc_new wr (.cells #[.int .i64 y.Do, .int .i64 y.m, .int .i64 y.c, .int .i64 y.v, .int .i64 y.a, .int .i64 y.b, .slice y.p y.len y.cap] 42)
        have hOp := opG_op hT.hw.ok y
        have hnm := hT.nm
        have hnc := hT.nc
        generalize hv : wr.alloc (.cells #[.int .i64 y.Do, .int .i64 y.m, .int .i64 y.c, .int .i64 y.v, .int .i64 y.a, .int .i64 y.b, .slice y.p y.len y.cap] 42) = v at *
        have hnew : wr.heap.size < v.heap.size := obj_lt hbx
        have hN0 : NoteS w1 S gb lb b gL cL3 gF cF g len v 0 (.slice none 0 0) (.slice none 0 0) v := ⟨hT.hw.below hBb, Below.refl _ _, OwnBo.nil _ _, fun _ => .slice none 0 0, OwnR.nil _ _, fun m hm => by omega⟩
        have hyok2 := Lib.hid (hyok.kept hBb)
        have hop2 : ∀ wz, Below v.heap.size v wz → Calls Tryz.prog 12 #[.pointer (some ⟨gb, 0, none⟩), .agg y.arr] wz fun e w' => e = .returned (.int .i64 (opG g y).1) ∧ HW w1 S gb lb b gL cL3 gF cF (opG g y).2 w' ∧ ∀ j, ob ≤ j → j < wz.heap.size → w'.heap[j]? = wz.heap[j]? := fun wz hbz => by
          rw [hob]
          exact HW.opK hT.hw (hBb.trans (hbz.mono hBb.size)) (hyok2.out.kept hbz) hyb (by omega)
        unfold GOp.arr at hop2
        replace hT := Lib.hid hT
        replace hrow := Lib.hid hrow
        replace hv := Lib.hid hv
        replace hBb := Lib.hid hBb
        replace hbx := Lib.hid hbx
        replace hN0 := Lib.hid hN0
        replace hyok := Lib.hid hyok
        replace hyok1 := Lib.hid hyok1
        replace hyb := Lib.hid hyb
        replace hy := Lib.hid hy
        replace hOp := Lib.hid hOp
        replace hnm := Lib.hid hnm
        replace hnc := Lib.hid hnc
        replace hob := Lib.hid hob
        replace hop2 := Lib.hid hop2
        go_upto_region 14 with (fail)
        change Code.wp _ _ _ _ (wr.alloc (.cells #[.int .i64 y.Do, .int .i64 y.m, .int .i64 y.c, .int .i64 y.v, .int .i64 y.a, .int .i64 y.b, .slice y.p y.len y.cap] 42))
        rw [hv.out]
        clear z0 z1 z2 z3 z4 z5 z6
        go_upto_region 17 with (fail)
        go_loopw [11, 12, 43] (fun u11 u12 i wz => ∃ m : Nat, m ≤ n ∧ i = .int .i64 (m : Int) ∧ Hid (NoteS w1 S gb lb b gL cL3 gF cF g len v m u11 u12 wz)) (fun _ _ i _ => n - (intOf i).toNat)
        case atStart => exact ⟨0, by omega, rfl, hN0⟩
        case round =>
          obtain ⟨m, hm, rfl, hN⟩ := hrel
          by_cases hmn : m < n
          · have mz : (m : Int) < (n : Int) := by omega
            have hR0 : NoteR w1 S gb lb b gL cL3 gF cF g wr m 0 (.slice none 0 0) wr := ⟨hN.out.hw, Below.refl _ _, OwnI.nil _ _⟩
            replace hR0 := Lib.hid hR0
            obtain ⟨w5, hw5⟩ : ∃ w5, w5 = wr := ⟨_, rfl⟩
            rw [← hw5] at hR0 hN
            replace hw5 := Lib.hid hw5
            go_upto_region 21 with (fail)
            go_loopw [14, 48] (fun u i wz => ∃ c : Nat, c ≤ len ∧ i = .int .i64 (c : Int) ∧ Hid (NoteR w1 S gb lb b gL cL3 gF cF g w5 m c u wz)) (fun _ i _ => len - (intOf i).toNat)
            case atStart => exact ⟨0, by omega, rfl, (by rw [← hw5.out]; exact hR0)⟩
            case round =>
              obtain ⟨c, hc, rfl, hR⟩ := hrel
              by_cases hcn : c < len
              · have cz : (c : Int) < (len : Int) := by omega
                have hGt := hR.out.hw.get (m : Int) (c : Int)
                obtain ⟨v', w', hrun, hR2⟩ := hR.out.app (by omega)
                obtain ⟨up, uc, hu⟩ := hR.out.own.shape
                rw [rowL_len] at hu
                subst hu
                replace hGt := Lib.hid hGt
                replace hrun := Lib.hid hrun
                replace hR2 := Lib.hid hR2
                generalize g.l.get (m : Int) (c : Int) = X at *
                go_wp2_with (first | (go_at_call 30; (with_reducible refine hGt.out.mono ?_); rintro e w6 ⟨rfl, rfl⟩) | (at_builtin; refine wpList_run rfl (.tmp 51) (.tmp 56) 62 62 rfl _ _ _ _ rfl rfl hrun.out ?_))
                go_roundw
                case rel => exact ⟨c + 1, by omega, by go_num, hR2⟩
                case measure => simp [intOf]; omega
              · obtain rfl : c = len := by omega
                have cz : ¬ (c : Int) < (c : Int) := by omega
                have hN1 := hN.out.below hR.out.blw
                have hI : OwnI v.heap.size wr _ (rowL g m c) := ⟨hR.out.own.1, hR.out.own.2.imp id fun ⟨g1, cap1, cur1, a1, a2, a3⟩ => ⟨g1, cap1, cur1, a1, Nat.le_trans hN.out.blw.size a2, a3⟩⟩
                obtain ⟨v1, w6, hrun1, hw6, v2, w7, hrun2, hN2⟩ := hN1.two hI (by omega)
                have hFl := hw6.flagged (m : Int)
                obtain ⟨rv, hrv, _⟩ := hN1.rows
                obtain ⟨p11, c11, e11⟩ := hrv.shape
                rw [List.length_map, List.length_range] at e11
                subst e11
                obtain ⟨p12, c12, e12⟩ := hN1.fl.shape
                rw [flagL_len] at e12
                subst e12
                obtain ⟨up, uc, hu⟩ := hR.out.own.shape
                rw [rowL_len] at hu
                subst hu
                generalize g.flagged (m : Int) = F at *
                replace hFl := Lib.hid hFl
                replace hrun1 := Lib.hid hrun1
                replace hrun2 := Lib.hid hrun2
                replace hN2 := Lib.hid hN2
                replace hw6 := Lib.hid hw6
                replace hI := Lib.hid hI
                replace hrv := Lib.hid hrv
                replace hN1 := Lib.hid hN1
                go_wp2_with (first | (go_at_call 27; (with_reducible refine hFl.out.mono ?_); rintro e w8 ⟨rfl, rfl⟩) | (at_builtin; refine wpList_run rfl (.tmp 59) (.tmp 61) 61 61 rfl _ _ _ _ rfl rfl hrun1.out ?_) | (at_builtin; refine wpList_run rfl (.tmp 63) (.tmp 67) 54 54 rfl _ _ _ _ rfl rfl hrun2.out ?_))
                go_roundw
                case rel => exact ⟨m + 1, by omega, by go_num, hN2⟩
                case measure => simp [intOf]; omega
          · obtain rfl : m = n := by omega
            have mz : ¬ (m : Int) < (m : Int) := by omega
            have hop3 := hop2.out _ hN.out.blw
            have hbw := (hN.out.blw.block _ hnew).trans hbx.out
            rw [← hob.out] at hbw
            have y0 := obj_cell (i := 0) hbw rfl
            have y1 := obj_cell (i := 1) hbw rfl
            have y2 := obj_cell (i := 2) hbw rfl
            have y3 := obj_cell (i := 3) hbw rfl
            have y4 := obj_cell (i := 4) hbw rfl
            have y5 := obj_cell (i := 5) hbw rfl
            have y6 := obj_cell (i := 6) hbw rfl
            replace hbw := Lib.hid hbw
            obtain ⟨rv, hrv, _⟩ := hN.out.rows
            obtain ⟨p11, c11, e11⟩ := hrv.shape
            rw [List.length_map, List.length_range] at e11
            subst e11
            obtain ⟨p12, c12, e12⟩ := hN.out.fl.shape
            rw [flagL_len] at e12
            subst e12
            obtain ⟨R, hR⟩ : ∃ R, opG g y = R := ⟨_, rfl⟩
            rw [hR] at hop3
            have hOp := Lib.hid (hR ▸ hOp.out)
            replace hR := Lib.hid hR
            replace hop3 := Lib.hid hop3
            replace hrv := Lib.hid hrv
            rw [← hob.out]
            go_upto_region 28 with (first | (go_at_call 12; (with_reducible refine hop3.out.mono ?_); rintro e w9 ⟨rfl, hH9, hk9⟩))
            have hcell9 : ∀ (a : Addr) (x : Value), wr.cell? a = some x → ob ≤ a.block → w9.cell? a = some x := fun a x hx ha => (World.cell?_of_block (w := wr) (hk9 a.block ha (World.block_lt_of_cell? _ _ hx))).trans hx
            have hvo : ob ≤ v.heap.size := by rw [hob.out]; omega
            have f9 : w9.cell? ⟨ob, 0, none⟩ = some (.int .i64 y.Do) := hcell9 _ _ y0 (Nat.le_refl _)
            replace hH9 := Lib.hid hH9
            replace hcell9 := Lib.hid hcell9
            replace hk9 := Lib.hid hk9
            clear y0 y1 y2 y3 y4 y5 y6
            go_upto_region 29 with fail
            go_loopw [75] (fun i wz => ∃ j : Nat, j ≤ m ∧ i = .int .i64 (j : Int) ∧ Hid (Below w9.heap.size w9 wz)) (fun i _ => m - (intOf i).toNat)
            case atStart => exact ⟨0, by omega, rfl, Lib.hid (Below.refl _ _)⟩
            case round =>
              obtain ⟨j, hj, rfl, hb4⟩ := hrel
              by_cases hjm : j < m
              · have jz : (j : Int) < (m : Int) := by omega
                go_upto_region 32 with fail
                go_loopw [80] (fun i wz => ∃ c : Nat, c ≤ len ∧ i = .int .i64 (c : Int) ∧ Hid (Below w9.heap.size w9 wz)) (fun i _ => len - (intOf i).toNat)
                case atStart => exact ⟨0, by omega, rfl, hb4⟩
                case round =>
                  obtain ⟨c, hc, rfl, hb5⟩ := hrel
                  by_cases hcl : c < len
                  · have cz : (c : Int) < (len : Int) := by omega
                    have hGt := (hH9.out.below hb5.out).get (j : Int) (c : Int)
                    obtain ⟨g11, c11', gm, cm, g12, c12', e11, r1, r2, e12, r3, b1, b2, b3⟩ := hN.out.read hjm hcl (by omega)
                    injection e11 with e11 f1 f2
                    clear f1 f2
                    replace e11 := Lib.hid e11
                    injection e12 with e12 f1 f2
                    clear f1 f2
                    replace e12 := Lib.hid e12
                    have x1 := hcell9.out _ _ r1 (Nat.le_trans hvo b1)
                    have q1 := (hb5.out.cell (p := ⟨g11, j, none⟩) (World.block_lt_of_cell? _ _ x1)).trans x1
                    have x2 := hcell9.out _ _ r2 (Nat.le_trans hvo b2)
                    have q2 := (hb5.out.cell (p := ⟨gm, c, none⟩) (World.block_lt_of_cell? _ _ x2)).trans x2
                    have x3 := hcell9.out _ _ r3 (Nat.le_trans hvo b3)
                    have q3 := (hb5.out.cell (p := ⟨g12, j, none⟩) (World.block_lt_of_cell? _ _ x3)).trans x3
                    have hjn : j < g.l.nm := by rw [hnm.out]; exact hjm
                    have herr := hOp.out.err
                    have hsp := hOp.out.spare j hjn
                    have hmo := hOp.out.more j hjn
                    have hgr : g.l.row j c = g.l.get (j : Int) (c : Int) := rfl
                    have hgr2 : R.2.l.row j c = R.2.l.get (j : Int) (c : Int) := rfl
                    rw [← flagged_nat hjn] at hsp
                    have hsp2 : g.flagged (j : Int) = true → y.Do = 0 ∨ y.Do = 5 ∨ y.Do = 6 ∨ R.2.l.get (j : Int) (c : Int) = g.l.get (j : Int) (c : Int) := fun e => (hsp e).imp id fun e => e.imp id fun e => e.imp id fun e => by rw [← hgr2, ← hgr, e]
                    have hmo2 : y.Do = 0 → g.l.get (j : Int) (c : Int) ≤ R.2.l.get (j : Int) (c : Int) := fun e => hmo e c
                    have herr2 : R.1 ≠ 0 → R.2.l.get (j : Int) (c : Int) = g.l.get (j : Int) (c : Int) := fun e => by rw [herr e]
                    have f0 := (hb5.out.cell (p := ⟨ob, 0, none⟩) (World.block_lt_of_cell? _ _ f9)).trans f9
                    clear herr hsp hmo hgr hgr2 r1 r2 r3 x1 x2 x3
                    generalize R.2.l.get (j : Int) (c : Int) = NW at *
                    generalize g.l.get (j : Int) (c : Int) = OL at *
                    generalize g.flagged (j : Int) = F at *
                    replace hGt := Lib.hid hGt
                    by_cases hEq : NW = OL
                    · subst hEq
                      have hlt : decide (NW < NW) = false := by simp
                      replace hsp2 := Lib.hid hsp2
                      replace hmo2 := Lib.hid hmo2
                      replace herr2 := Lib.hid herr2
                      have hbq : (NW != NW) = false := by simp
                      cases F with
                      | false =>
                        by_cases hE : R.1 = 0
                        · have hz : (R.1 != 0) = false := by simpa using hE
                          replace hE := Lib.hid hE
                          go_upto_region 35 with (first | (go_at_call 30; (with_reducible refine hGt.out.mono ?_); rintro e w10 ⟨rfl, rfl⟩))
                          refine r35_A e11.out e12.out jz cz hn16 hn8 q1 q2 q3 hz _ _ _ _ _ _ _ _ _ _ _ _ _ _ _ _ _ _ _ _ _ _ _ _ _ _ _ _ _ _ _ _ _ _ _ _ _ _ _ _ _ _ _ _ _ _ _ _ _ _ _ _ _ _ _ _ _ _ _ _ _ _ _ _ _ _ _ _ _ _ _ _ _ _ _ _ _ _ _ _ _ _ _ _ _ _ _ _ _ _ _ _ _ _ _ _ _ _ _ _ _ _ _ _ _ _ _ _ _ _ _ _ _ _ _ _ _ _ _ _ _ _ _ _ _ _ _ _ _ _ _ _ _ _ _ _ _ _ _ _ _ _ _ _ _ _ _ _ _ _ ?_
                          intros
                          go_wp2_with fail
                          go_roundw
                          case rel => exact ⟨c + 1, by omega, by go_num, hb5⟩
                          case measure => simp [intOf]; omega
                        · have hz : (R.1 != 0) = true := by simpa using hE
                          replace hE := Lib.hid hE
                          go_upto_region 35 with (first | (go_at_call 30; (with_reducible refine hGt.out.mono ?_); rintro e w10 ⟨rfl, rfl⟩))
                          refine r35_B e11.out e12.out jz cz hn16 hn8 q1 q2 q3 hz hbq _ _ _ _ _ _ _ _ _ _ _ _ _ _ _ _ _ _ _ _ _ _ _ _ _ _ _ _ _ _ _ _ _ _ _ _ _ _ _ _ _ _ _ _ _ _ _ _ _ _ _ _ _ _ _ _ _ _ _ _ _ _ _ _ _ _ _ _ _ _ _ _ _ _ _ _ _ _ _ _ _ _ _ _ _ _ _ _ _ _ _ _ _ _ _ _ _ _ _ _ _ _ _ _ _ _ _ _ _ _ _ _ _ _ _ _ _ _ _ _ _ _ _ _ _ _ _ _ _ _ _ _ _ _ _ _ _ _ _ _ _ _ _ _ _ _ _ _ _ _ ?_
                          intros
                          go_wp2_with fail
                          go_roundw
                          case rel => exact ⟨c + 1, by omega, by go_num, hb5⟩
                          case measure => simp [intOf]; omega
                      | true =>
                        by_cases hE : R.1 = 0
                        · have hz : (R.1 != 0) = false := by simpa using hE
                          replace hE := Lib.hid hE
                          go_upto_region 35 with (first | (go_at_call 30; (with_reducible refine hGt.out.mono ?_); rintro e w10 ⟨rfl, rfl⟩))
                          refine r35_C e11.out e12.out jz cz hn16 hn8 q1 q2 q3 hz hbq hlt _ _ _ _ _ _ _ _ _ _ _ _ _ _ _ _ _ _ _ _ _ _ _ _ _ _ _ _ _ _ _ _ _ _ _ _ _ _ _ _ _ _ _ _ _ _ _ _ _ _ _ _ _ _ _ _ _ _ _ _ _ _ _ _ _ _ _ _ _ _ _ _ _ _ _ _ _ _ _ _ _ _ _ _ _ _ _ _ _ _ _ _ _ _ _ _ _ _ _ _ _ _ _ _ _ _ _ _ _ _ _ _ _ _ _ _ _ _ _ _ _ _ _ _ _ _ _ _ _ _ _ _ _ _ _ _ _ _ _ _ _ _ _ _ _ _ _ _ _ _ ?_
                          intros
                          go_wp2_with fail
                          go_roundw
                          case rel => exact ⟨c + 1, by omega, by go_num, hb5⟩
                          case measure => simp [intOf]; omega
                        · have hz : (R.1 != 0) = true := by simpa using hE
                          replace hE := Lib.hid hE
                          go_upto_region 35 with (first | (go_at_call 30; (with_reducible refine hGt.out.mono ?_); rintro e w10 ⟨rfl, rfl⟩))
                          refine r35_D e11.out e12.out jz cz hn16 hn8 q1 q2 q3 hz hbq hlt _ _ _ _ _ _ _ _ _ _ _ _ _ _ _ _ _ _ _ _ _ _ _ _ _ _ _ _ _ _ _ _ _ _ _ _ _ _ _ _ _ _ _ _ _ _ _ _ _ _ _ _ _ _ _ _ _ _ _ _ _ _ _ _ _ _ _ _ _ _ _ _ _ _ _ _ _ _ _ _ _ _ _ _ _ _ _ _ _ _ _ _ _ _ _ _ _ _ _ _ _ _ _ _ _ _ _ _ _ _ _ _ _ _ _ _ _ _ _ _ _ _ _ _ _ _ _ _ _ _ _ _ _ _ _ _ _ _ _ _ _ _ _ _ _ _ _ _ _ _ ?_
                          intros
                          go_wp2_with fail
                          go_roundw
                          case rel => exact ⟨c + 1, by omega, by go_num, hb5⟩
                          case measure => simp [intOf]; omega
                    · have hE : R.1 = 0 := by
                        by_cases e : R.1 = 0
                        · exact e
                        · exact absurd (herr2 e) hEq
                      have hz : (R.1 != 0) = false := by simpa using hE
                      have hbq : (NW != OL) = true := by simpa using hEq
                      replace hE := Lib.hid hE
                      cases F with
                      | false =>
                        replace hsp2 := Lib.hid hsp2
                        replace hmo2 := Lib.hid hmo2
                        replace herr2 := Lib.hid herr2
                        replace hEq := Lib.hid hEq
                        go_upto_region 35 with (first | (go_at_call 30; (with_reducible refine hGt.out.mono ?_); rintro e w10 ⟨rfl, rfl⟩))
                        refine r35_A e11.out e12.out jz cz hn16 hn8 q1 q2 q3 hz _ _ _ _ _ _ _ _ _ _ _ _ _ _ _ _ _ _ _ _ _ _ _ _ _ _ _ _ _ _ _ _ _ _ _ _ _ _ _ _ _ _ _ _ _ _ _ _ _ _ _ _ _ _ _ _ _ _ _ _ _ _ _ _ _ _ _ _ _ _ _ _ _ _ _ _ _ _ _ _ _ _ _ _ _ _ _ _ _ _ _ _ _ _ _ _ _ _ _ _ _ _ _ _ _ _ _ _ _ _ _ _ _ _ _ _ _ _ _ _ _ _ _ _ _ _ _ _ _ _ _ _ _ _ _ _ _ _ _ _ _ _ _ _ _ _ _ _ _ _ ?_
                        intros
                        go_wp2_with fail
                        go_roundw
                        case rel => exact ⟨c + 1, by omega, by go_num, hb5⟩
                        case measure => simp [intOf]; omega
                      | true =>
                        have hd : y.Do = 0 ∧ ¬ NW < OL ∨ y.Do = 5 ∨ y.Do = 6 := by
                          rcases hsp2 rfl with d | d | d | d
                          · exact .inl ⟨d, by have := hmo2 d; omega⟩
                          · exact .inr (.inl d)
                          · exact .inr (.inr d)
                          · exact absurd d hEq
                        replace hsp2 := Lib.hid hsp2
                        replace hmo2 := Lib.hid hmo2
                        replace herr2 := Lib.hid herr2
                        replace hEq := Lib.hid hEq
                        rcases hd with ⟨d, hlt0⟩ | d | d
                        · have hlt : decide (NW < OL) = false := by simpa using hlt0
                          rw [d] at f0
                          replace d := Lib.hid d
                          go_upto_region 35 with (first | (go_at_call 30; (with_reducible refine hGt.out.mono ?_); rintro e w10 ⟨rfl, rfl⟩))
                          refine r35_E e11.out e12.out jz cz hn16 hn8 q1 q2 q3 f0 hz hbq hlt _ _ _ _ _ _ _ _ _ _ _ _ _ _ _ _ _ _ _ _ _ _ _ _ _ _ _ _ _ _ _ _ _ _ _ _ _ _ _ _ _ _ _ _ _ _ _ _ _ _ _ _ _ _ _ _ _ _ _ _ _ _ _ _ _ _ _ _ _ _ _ _ _ _ _ _ _ _ _ _ _ _ _ _ _ _ _ _ _ _ _ _ _ _ _ _ _ _ _ _ _ _ _ _ _ _ _ _ _ _ _ _ _ _ _ _ _ _ _ _ _ _ _ _ _ _ _ _ _ _ _ _ _ _ _ _ _ _ _ _ _ _ _ _ _ _ _ _ _ _ ?_
                          intros
                          go_wp2_with fail
                          go_roundw
                          case rel => exact ⟨c + 1, by omega, by go_num, hb5⟩
                          case measure => simp [intOf]; omega
                        · rw [d] at f0
                          replace d := Lib.hid d
                          by_cases hlt0 : NW < OL
                          · have hlt : decide (NW < OL) = true := by simpa using hlt0
                            go_upto_region 35 with (first | (go_at_call 30; (with_reducible refine hGt.out.mono ?_); rintro e w10 ⟨rfl, rfl⟩))
                            refine r35_F5a e11.out e12.out jz cz hn16 hn8 q1 q2 q3 f0 hz hbq hlt _ _ _ _ _ _ _ _ _ _ _ _ _ _ _ _ _ _ _ _ _ _ _ _ _ _ _ _ _ _ _ _ _ _ _ _ _ _ _ _ _ _ _ _ _ _ _ _ _ _ _ _ _ _ _ _ _ _ _ _ _ _ _ _ _ _ _ _ _ _ _ _ _ _ _ _ _ _ _ _ _ _ _ _ _ _ _ _ _ _ _ _ _ _ _ _ _ _ _ _ _ _ _ _ _ _ _ _ _ _ _ _ _ _ _ _ _ _ _ _ _ _ _ _ _ _ _ _ _ _ _ _ _ _ _ _ _ _ _ _ _ _ _ _ _ _ _ _ _ _ ?_
                            intros
                            go_wp2_with fail
                            go_roundw
                            case rel => exact ⟨c + 1, by omega, by go_num, hb5⟩
                            case measure => simp [intOf]; omega
                          · have hlt : decide (NW < OL) = false := by simpa using hlt0
                            go_upto_region 35 with (first | (go_at_call 30; (with_reducible refine hGt.out.mono ?_); rintro e w10 ⟨rfl, rfl⟩))
                            refine r35_F5b e11.out e12.out jz cz hn16 hn8 q1 q2 q3 f0 hz hbq hlt _ _ _ _ _ _ _ _ _ _ _ _ _ _ _ _ _ _ _ _ _ _ _ _ _ _ _ _ _ _ _ _ _ _ _ _ _ _ _ _ _ _ _ _ _ _ _ _ _ _ _ _ _ _ _ _ _ _ _ _ _ _ _ _ _ _ _ _ _ _ _ _ _ _ _ _ _ _ _ _ _ _ _ _ _ _ _ _ _ _ _ _ _ _ _ _ _ _ _ _ _ _ _ _ _ _ _ _ _ _ _ _ _ _ _ _ _ _ _ _ _ _ _ _ _ _ _ _ _ _ _ _ _ _ _ _ _ _ _ _ _ _ _ _ _ _ _ _ _ _ ?_
                            intros
                            go_wp2_with fail
                            go_roundw
                            case rel => exact ⟨c + 1, by omega, by go_num, hb5⟩
                            case measure => simp [intOf]; omega
                        · rw [d] at f0
                          replace d := Lib.hid d
                          by_cases hlt0 : NW < OL
                          · have hlt : decide (NW < OL) = true := by simpa using hlt0
                            go_upto_region 35 with (first | (go_at_call 30; (with_reducible refine hGt.out.mono ?_); rintro e w10 ⟨rfl, rfl⟩))
                            refine r35_F6a e11.out e12.out jz cz hn16 hn8 q1 q2 q3 f0 hz hbq hlt _ _ _ _ _ _ _ _ _ _ _ _ _ _ _ _ _ _ _ _ _ _ _ _ _ _ _ _ _ _ _ _ _ _ _ _ _ _ _ _ _ _ _ _ _ _ _ _ _ _ _ _ _ _ _ _ _ _ _ _ _ _ _ _ _ _ _ _ _ _ _ _ _ _ _ _ _ _ _ _ _ _ _ _ _ _ _ _ _ _ _ _ _ _ _ _ _ _ _ _ _ _ _ _ _ _ _ _ _ _ _ _ _ _ _ _ _ _ _ _ _ _ _ _ _ _ _ _ _ _ _ _ _ _ _ _ _ _ _ _ _ _ _ _ _ _ _ _ _ _ ?_
                            intros
                            go_wp2_with fail
                            go_roundw
                            case rel => exact ⟨c + 1, by omega, by go_num, hb5⟩
                            case measure => simp [intOf]; omega
                          · have hlt : decide (NW < OL) = false := by simpa using hlt0
                            go_upto_region 35 with (first | (go_at_call 30; (with_reducible refine hGt.out.mono ?_); rintro e w10 ⟨rfl, rfl⟩))
                            refine r35_F6b e11.out e12.out jz cz hn16 hn8 q1 q2 q3 f0 hz hbq hlt _ _ _ _ _ _ _ _ _ _ _ _ _ _ _ _ _ _ _ _ _ _ _ _ _ _ _ _ _ _ _ _ _ _ _ _ _ _ _ _ _ _ _ _ _ _ _ _ _ _ _ _ _ _ _ _ _ _ _ _ _ _ _ _ _ _ _ _ _ _ _ _ _ _ _ _ _ _ _ _ _ _ _ _ _ _ _ _ _ _ _ _ _ _ _ _ _ _ _ _ _ _ _ _ _ _ _ _ _ _ _ _ _ _ _ _ _ _ _ _ _ _ _ _ _ _ _ _ _ _ _ _ _ _ _ _ _ _ _ _ _ _ _ _ _ _ _ _ _ _ ?_
                            intros
                            go_wp2_with fail
                            go_roundw
                            case rel => exact ⟨c + 1, by omega, by go_num, hb5⟩
                            case measure => simp [intOf]; omega
                  · obtain rfl : c = len := by omega
                    have cz : ¬ (c : Int) < (c : Int) := by omega
                    go_wp2_with fail
                    go_roundw
                    case rel => exact ⟨j + 1, by omega, by go_num, hb5⟩
                    case measure => simp [intOf]; omega
              · obtain rfl : j = m := by omega
                have jz : ¬ (j : Int) < (j : Int) := by omega
                have hEnd : SLoop w1 S gb lb b gL cL3 gF cF j len R.2 wr := ⟨hH9.out.below hb4.out, hOp.out.like.1.trans hnm.out, hOp.out.like.2.trans hnc.out⟩
                replace hEnd := Lib.hid hEnd
                go_wp2_with fail
                go_roundw
                case rel => exact ⟨k + 1, R.2, by omega, by go_num, hEnd⟩
                case measure => simp [intOf]; omega
      · obtain rfl : k = k3 := by omega
        have kz : ¬ (k : Int) < (k : Int) := by omega
        go_wp2_with fail
        go_ret
        exact ⟨rfl, hB1.out.trans (hS.out.hw.blw.mono hB1.out.size)⟩
  · replace cM : Calls Tryz.prog 28 #[.slice p len cap, .slice q n c2] w1 fun e w' => e = .returned (.pointer none) ∧ Below w1.heap.size w1 w' := cM.mono fun e w' ⟨_, h2, h3⟩ => ⟨h2 hok, h3⟩
    replace cM := Lib.hid cM
    replace ho1 := Lib.hid ho1
    replace hok := Lib.hid hok
    go_wp2_with (first | (go_at_call 7; (with_reducible refine cL.out.mono ?_); rintro e w2 ⟨rfl, rfl⟩) | (go_at_call 28; (with_reducible refine cM.out.mono ?_); rintro e w3 ⟨rfl, hb3⟩; replace hb3 := Lib.hid hb3))
    go_ret
    exact ⟨rfl, hB1.out.trans (hb3.out.mono hB1.out.size)⟩
end Go.Proofs.YtljclgphgojphaaGreat
