/- The contract of the reference's Copy. -/
import Derived.Test.YtghebijikdnikaaLG6
namespace Go.Proofs.Ytghebijikdnikaa
open Go.RowKit
set_option linter.unusedVariables false

def ivs (f : Nat → Int) (n : Nat) : List Value := (List.range n).map fun i => Value.int .i64 (f i)
theorem ivs_len (f : Nat → Int) (n : Nat) : (ivs f n).length = n := by unfold ivs; simp
theorem ivs_get (f : Nat → Int) {n i : Nat} (h : i < n) : (ivs f n)[i]? = some (.int .i64 (f i)) := by unfold ivs; rw [List.getElem?_map, List.getElem?_range h]; rfl
/-- append([]int64{}, row...): a new row -/
theorem appI_run (W : World) (s g n c : Nat) (f : Nat → Int) (hs : W.heap[s]? = some (.cells #[] 2 (0, 0))) (hr : IR W g f n) (h1 : 1 ≤ n) (h8 : n ≤ 1000) :
    ∃ g' c' w', (Builtin.append_ #[42, 42] 42 #[.slice (some ⟨s, 0, none⟩) 0 0, .slice (some ⟨g, 0, none⟩) n c]).run Try.prog W = .ok (.slice (some ⟨g', 0, none⟩) n c') w' ∧ IR w' g' f n ∧ s ≤ g' ∧ W.grownBy w' (some s) := by
  obtain ⟨i0, hi, hz0, hz1, hz2⟩ := info_parts Try.info2r
  have hown : W.ownsRow s 2 1 (.slice (some ⟨s, 0, none⟩) 0 0) 0 [] := ⟨by simp, .inr ⟨s, 0, #[], rfl, Nat.le_refl _, hs, Nat.le_refl _, by unfold maxLen; omega, by simp, by simp⟩⟩
  obtain ⟨v', w', h2, h3, h4, _⟩ := run_append_own (P := Try.prog) W s 42 42 2 i0 (.int .i64 0) 1 8 Try.underlying42 hi hz0 hz1 hz2 rfl (by decide) (.slice (some ⟨s, 0, none⟩) 0 0) 0 [] hown ⟨g, 0, none⟩ n c (ivs f n) (by rw [ivs_len]; omega)
    (fun j u hu => by
      have hj : j < n := by have := (List.getElem?_eq_some_iff.1 hu).1; rwa [ivs_len] at this
      rw [ivs_get f hj] at hu
      injection hu with hu
      rw [← hu, Go.WideShapes.add_plain, Nat.zero_add]
      exact hr.cell hj)
    (fun u hu => by unfold ivs at hu; obtain ⟨x, _, rfl⟩ := List.mem_map.1 hu; rfl) (by unfold maxLen; omega) (by omega) (Nat.le_of_lt (obj_lt hs))
  rw [Nat.zero_add, List.nil_append] at h3
  rcases h3.2 with ⟨_, e0⟩ | ⟨g', cap, cur, rfl, hg, hh, hn, hm, hsz, ht⟩
  · omega
  · refine ⟨g', cap, w', h2, ⟨cur, hh, fun i hi => ?_⟩, hg, h4⟩
    have e : (ivs f n)[i]? = cur[i]? := by rw [← ht, List.getElem?_take, if_pos (by omega), Array.getElem?_toList]
    rw [← e, ivs_get f hi]
theorem wpList_run {ops : Array Oper} {rest : List Oper} {o : Oper} {a : Act} {w : World} {Q : Exit → Act → World → Prop} (hgd : o.guard = none) (sl x : Operand) (t t' : TypeId)
    (ho : o.op = .call { callee := .builtin .append, args := #[sl, x], argTypes := #[t, t'] }) (v y v' : Value) (w' : World) (hs : a.eval sl = v) (hx : a.eval x = y) (hr : (Builtin.append_ #[t, t'] o.type #[v, y]).run Try.prog w = .ok v' w')
    (h : wpList Try.prog ops Q rest (a.put o.dst v') w') : wpList Try.prog ops Q (o :: rest) a w := by
  refine wpList_plain hgd fun K hK => ?_
  unfold Oper.wp execOp
  simp only [ho, resolve, invoke, builtin, Sem.run_bind, Sem.run_pure, Result.andThen_ok, List.map_toArray, List.map_cons, List.map_nil, hs, hx, hr]
  exact hK _ _ h
/-- Copy's way: what it holds: k members' rows -/
structure CSt (w : World) (l : LM) (b gN cN k : Nat) (v : Value) (g cp : Nat → Nat) (wr : World) : Prop where
  obj : wr.heap[b]? = some (.cells #[v, .slice (some ⟨gN, 0, none⟩) l.nc cN] 44 (0, 0))
  nos : IR wr gN l.N l.nc
  own : OwnR w.heap.size wr v ((List.range k).map fun m => Value.slice (some ⟨g m, 0, none⟩) l.nc (cp m))
  bal : ∀ m, m < k → IR wr (g m) (l.B m) l.nc ∧ w.heap.size ≤ g m ∧ g m ≠ gN
  apart : ∀ m, m < k → ∀ i, i < k → i ≠ m → g i ≠ g m
  new : w.heap.size ≤ b ∧ w.heap.size ≤ gN
  blw : Below w.heap.size w wr
theorem CSt.rl {w wr : World} {l : LM} {b gN cN : Nat} {v : Value} {g cp : Nat → Nat} (h : CSt w l b gN cN l.nm v g cp wr) (h1 : 1 ≤ l.nm) : RL (fun j => w.heap.size ≤ j) wr b l := by
  have hll : ((List.range l.nm).map fun m => Value.slice (some ⟨g m, 0, none⟩) l.nc (cp m)).length = l.nm := by simp
  obtain ⟨gB, cB, cs, hv, hgB, hh, hcs⟩ := h.own.rows (fun e => by rw [e] at hll; simp at hll; omega)
  rw [hll] at hv
  have ho := h.obj
  rw [hv] at ho
  exact ⟨gB, cB, gN, cN, g, cp, ho, ⟨cs, hh, fun q hq => hcs q _ (by rw [List.getElem?_map, List.getElem?_range hq]; rfl)⟩, h.nos, fun q hq => (h.bal q hq).1, fun q hq => ⟨(h.bal q hq).2.2, fun i hi hne => h.apart q hq i hi hne⟩, ⟨h.new.1, hgB, h.new.2, fun q hq => (h.bal q hq).2.1⟩⟩

set_option maxHeartbeats 8000000 in
set_option maxRecDepth 100000 in
theorem copyRL_any {P : Nat → Prop} {b : Nat} {l : LM} (w : World) (h0 : RL P w b l) (hl : l.Ok) :
    Calls Try.prog 34 #[.pointer (some ⟨b, 0, none⟩)] w fun e w' => ∃ b', e = .returned (.pointer (some ⟨b', 0, none⟩)) ∧ RL (fun j => w.heap.size ≤ j) w' b' l ∧ Below w.heap.size w w' := by
  obtain ⟨gB, cB, gN, cN, g0, cp0, h⟩ := h0
  have hm := hl.nm
  have hc := hl.nc
  have c1 := h.c1
  have c1a : (w.alloc (.cells #[] 2)).cell? ⟨b, 1, none⟩ = some (.slice (some ⟨gN, 0, none⟩) l.nc cN) := by rw [World.cell?_alloc_lt _ _ _ (obj_lt h.obj)]; exact c1
  obtain ⟨gN', cN', w1, hrun1, hI1, hs1, hG1⟩ := appI_run (w.alloc (.cells #[] 2)) w.heap.size gN l.nc cN l.N (heap_alloc_new w _) (h.nos.at (Below.heap_alloc _ _ _ h.nos.lt)) hc.1 (by omega)
  have hB1 : Below w.heap.size w w1 := ((Below.refl _ w).alloc (Nat.le_refl _) _).grown hG1 (by simp) (fun k hk => by injection hk with hk; omega)
  have hgl := hI1.lt
  have hS0 : CSt w l w1.heap.size gN' cN' 0 (.slice none 0 0) (fun _ => 0) (fun _ => 0) (w1.alloc (.cells #[.slice none 0 0, .slice (some ⟨gN', 0, none⟩) l.nc cN'] 44)) := by
    refine ⟨heap_alloc_new w1 _, hI1.at (Below.heap_alloc _ _ _ hgl), World.ownsRow_nil _ _ _ _, fun k hk => by omega, fun k hk => by omega, ⟨hB1.size, hs1⟩, hB1.alloc hB1.size _⟩
  generalize hb1 : w1.heap.size = b1 at *
  replace hS0 := Lib.hid hS0
  replace hrun1 := Lib.hid hrun1
  replace hI1 := Lib.hid hI1
  replace hG1 := Lib.hid hG1
  replace hB1 := Lib.hid hB1
  replace hb1 := Lib.hid hb1
  replace h := Lib.hid h
  go_enter Try.func34, Try.ntmps34
  go_wp2_with (at_builtin; refine wpList_run rfl (.tmp 5) (.tmp 9) 42 42 rfl _ _ _ _ rfl rfl hrun1.out ?_)
  rw [hb1.out]
  go_loopw [4] (fun i wr => ∃ (k : Nat) (v : Value) (g cp : Nat → Nat), k ≤ l.nm ∧ i = .int .i64 (k : Int) ∧ Hid (CSt w l b1 gN' cN' k v g cp wr)) (fun i _ => l.nm - (intOf i).toNat)
  case atStart => exact ⟨0, _, _, _, by omega, rfl, by rw [← hb1.out]; rw [hb1.out]; exact hS0⟩
  case round =>
    obtain ⟨k, v, g, cp, hk, rfl, hS⟩ := hrel
    have hT := hS.out
    have hRr := h.out.below hT.blw
    have c0 := hRr.c0
    by_cases hkn : k < l.nm
    · have kz : (k : Int) < (l.nm : Int) := by omega
      have r0 := hRr.row hkn
      obtain ⟨p, cap, hv⟩ := hT.own.shape
      have hll : ((List.range k).map fun m => Value.slice (some ⟨g m, 0, none⟩) l.nc (cp m)).length = k := by simp
      rw [hll] at hv
      subst hv
      have hbl := obj_lt hT.obj
      have hws := hT.blw.size
      have c0a : ∀ o, (wr.alloc o).cell? ⟨b, 0, none⟩ = some (.slice (some ⟨gB, 0, none⟩) l.nm cB) := fun o => by rw [World.cell?_alloc_lt _ _ _ (obj_lt hRr.obj)]; exact c0
      have r0a : ∀ o, (wr.alloc o).cell? ⟨gB, k, none⟩ = some (.slice (some ⟨g0 k, 0, none⟩) l.nc (cp0 k)) := fun o => by rw [World.cell?_alloc_lt _ _ _ (World.block_lt_of_cell? _ _ r0)]; exact r0
      obtain ⟨g6, c6, w6, hrun6, hI6, hs6, hG6⟩ := appI_run ((wr.alloc (.cells #[] 2)).drew) wr.heap.size (g0 k) l.nc (cp0 k) (l.B k) (heap_alloc_new wr _) ((hRr.bal k hkn).at (Below.heap_alloc _ _ _ (hRr.bal k hkn).lt)) hc.1 (by omega)
      have hk6 : ∀ y, y < wr.heap.size → w6.heap[y]? = wr.heap[y]? := fun y hy => (hG6.block y (by simp; omega) (by intro e; injection e with e; omega)).trans (Below.heap_alloc _ _ _ hy)
      have hsz6 : wr.heap.size < w6.heap.size := Nat.lt_of_lt_of_le (by simp) hG6.size
      have hgl6 := hI6.lt
      have hO7 : OwnR w.heap.size (w6.alloc (.cells #[.slice (some ⟨g6, 0, none⟩) l.nc c6] 42)) (.slice p k cap) ((List.range k).map fun m => Value.slice (some ⟨g m, 0, none⟩) l.nc (cp m)) := hT.own.block fun y hy => (Below.heap_alloc _ _ _ (by have := (hT.own.lt y hy).2; omega)).trans (hk6 y (hT.own.lt y hy).2)
      have hx7 : (w6.alloc (.cells #[.slice (some ⟨g6, 0, none⟩) l.nc c6] 42)).cell? ((⟨w6.heap.size, 0, none⟩ : Addr).add 0) = some (.slice (some ⟨g6, 0, none⟩) l.nc c6) := obj_cell (heap_alloc_new w6 _) rfl
      obtain ⟨v8, w8, hrun8, hO8, hG8⟩ := appR_run _ _ _ _ hO7 (by simp; omega) _ _ hx7 rfl (by rw [hll]; omega)
      have hrow : ∀ y, Value.ownBlock (.slice p k cap) = some y → ∃ cs, wr.heap[y]? = some (.cells cs 42 (0, 0)) := fun y hy => by
        rcases hT.own.2 with ⟨e2, _⟩ | ⟨q, c3, cur, e2, _, hq, _⟩
        · rw [e2] at hy; cases hy
        · rw [e2] at hy
          injection hy with hy
          subst hy
          exact ⟨cur, hq⟩
      have hk8 : ∀ y, y < wr.heap.size → (∀ cs, wr.heap[y]? = some (.cells cs 42 (0, 0)) → False) → w8.heap[y]? = wr.heap[y]? := fun y hy hn => (hG8.block y (by simp; omega) (fun e => by obtain ⟨cs, hcs⟩ := hrow y e.symm; exact hn cs hcs)).trans ((Below.heap_alloc _ _ _ (by omega)).trans (hk6 y hy))
      have hobj8 := (hk8 _ hbl (fun cs e => by rw [hT.obj] at e; simp at e)).trans hT.obj
      have hI8 : IR w8 g6 (l.B k) l.nc := hI6.at ((hG8.block _ (by simp; omega) (fun e => by obtain ⟨cs, hcs⟩ := hrow _ e.symm; have := obj_lt hcs; omega)).trans (Below.heap_alloc _ _ _ hgl6))
      have hlist : ((List.range (k + 1)).map fun m => Value.slice (some ⟨upd g k g6 m, 0, none⟩) l.nc (upd cp k c6 m)) = ((List.range k).map fun m => Value.slice (some ⟨g m, 0, none⟩) l.nc (cp m)) ++ [Value.slice (some ⟨g6, 0, none⟩) l.nc c6] := by
        rw [List.range_succ, List.map_append]
        congr 1
        · refine List.map_congr_left fun q hq => ?_
          rw [upd_other _ _ (by have := List.mem_range.1 hq; omega), upd_other _ _ (by have := List.mem_range.1 hq; omega)]
        · simp [upd_same]
      have hO9 : OwnR w.heap.size (w8.setCell ⟨b1, 0, none⟩ v8) v8 ((List.range (k + 1)).map fun m => Value.slice (some ⟨upd g k g6 m, 0, none⟩) l.nc (upd cp k c6 m)) := by
        rw [hlist]
        refine hO8.block fun y hy => obj_other _ ?_
        rintro rfl
        rcases hO8.2 with ⟨e2, _⟩ | ⟨q, c3, cur, e2, _, hq, _⟩
        · rw [e2] at hy; cases hy
        · rw [e2] at hy
          injection hy with hy
          subst hy
          rw [hobj8] at hq
          simp at hq
      have hfin : CSt w l b1 gN' cN' (k + 1) v8 (upd g k g6) (upd cp k c6) (w8.setCell ⟨b1, 0, none⟩ v8) := by
        have hset : ∀ y f, IR w8 y f l.nc → IR (w8.setCell ⟨b1, 0, none⟩ v8) y f l.nc := fun y f h => by
          obtain ⟨cs, i1, i2⟩ := h
          exact ⟨cs, (obj_other _ (ty_ne i1 hobj8 (by decide))).trans i1, i2⟩
        have hIR : ∀ y f, IR wr y f l.nc → IR (w8.setCell ⟨b1, 0, none⟩ v8) y f l.nc := fun y f h => by
          refine hset y f (h.at (hk8 y h.lt fun cs e => ?_))
          obtain ⟨cs', i1, i2⟩ := h
          rw [i1] at e
          simp at e
        refine ⟨obj_set hobj8 0 v8, hIR _ _ hT.nos, hO9, fun q hq => ?_, fun q hq i hi hne => ?_, hT.new, ?_⟩
        · by_cases e : q = k
          · subst e
            rw [upd_same]
            exact ⟨hset _ _ hI8, by omega, by have := hT.nos.lt; omega⟩
          · rw [upd_other _ _ e]
            have hb := hT.bal q (by omega)
            exact ⟨hIR _ _ hb.1, hb.2⟩
        · by_cases e : q = k
          · subst e
            rw [upd_same, upd_other _ _ hne]
            have := (hT.bal i (by omega)).1.lt
            omega
          · rw [upd_other _ _ e]
            by_cases e2 : i = k
            · subst e2
              rw [upd_same]
              have := (hT.bal q (by omega)).1.lt
              omega
            · rw [upd_other _ _ e2]
              exact hT.apart q (by omega) i (by omega) hne
        · have hB6 : Below wr.heap.size wr w6 := (((Below.refl _ wr).alloc (Nat.le_refl _) _).drew).grown hG6 (by simp) (fun y hy => by injection hy with hy; omega)
          have hB8 : Below w.heap.size w w8 := ((hT.blw.trans (hB6.mono hws)).alloc (by omega) _).grown hG8 (by simp; omega) (fun y hy => (hO7.lt y hy).1)
          exact hB8.setCell (by show w.heap.size ≤ b1; exact hT.new.1) _
      have k0 : wr.cell? ⟨b1, 0, none⟩ = some (.slice p k cap) := obj_cell hT.obj rfl
      have k0a : ∀ o, (wr.alloc o).cell? ⟨b1, 0, none⟩ = some (.slice p k cap) := fun o => by rw [World.cell?_alloc_lt _ _ _ hbl]; exact k0
      have k06 : w6.cell? ⟨b1, 0, none⟩ = some (.slice p k cap) := obj_cell ((hk6 _ hbl).trans hT.obj) rfl
      have k06a : ∀ o, (w6.alloc o).cell? ⟨b1, 0, none⟩ = some (.slice p k cap) := fun o => by rw [World.cell?_alloc_lt _ _ _ (by show b1 < w6.heap.size; omega)]; exact k06
      have c8 : w8.cell? ⟨b1, 0, none⟩ = some (.slice p k cap) := obj_cell hobj8 rfl
      have z8 := obj_free hobj8 0
      obtain ⟨p8, cap8, hv8⟩ := hO9.shape
      subst hv8
      generalize ((List.range (k + 1)).map fun m => Value.slice (some ⟨upd g k g6 m, 0, none⟩) l.nc (upd cp k c6 m)).length = n8 at *
      replace hfin := Lib.hid hfin
      replace hrun6 := Lib.hid hrun6
      replace hrun8 := Lib.hid hrun8
      replace hO7 := Lib.hid hO7
      replace hO8 := Lib.hid hO8
      replace hO9 := Lib.hid hO9
      replace hG6 := Lib.hid hG6
      replace hG8 := Lib.hid hG8
      replace hI6 := Lib.hid hI6
      replace hI8 := Lib.hid hI8
      replace hx7 := Lib.hid hx7
      replace hk6 := Lib.hid hk6
      replace hk8 := Lib.hid hk8
      replace hT := Lib.hid hT
      replace hRr := Lib.hid hRr
      replace hobj8 := Lib.hid hobj8
      replace hrow := Lib.hid hrow
      replace hlist := Lib.hid hlist
      replace hll := Lib.hid hll
      go_upto_region 5 with (fail)
      go_region_law (first | (refine step_app rfl (.tmp 27) (.tmp 34) 42 42 rfl _ _ _ _ rfl rfl hrun6.out ?_) | (refine step_app rfl (.tmp 26) (.tmp 36) 41 41 rfl _ _ _ _ rfl rfl hrun8.out ?_))
      all_goals
        go_wp2_with fail
        go_roundw
        case rel => exact ⟨k + 1, _, _, _, by omega, by go_num, hfin⟩
        case measure => simp [intOf]; omega
    · obtain rfl : k = l.nm := by omega
      have kz : ¬ (l.nm : Int) < (l.nm : Int) := by omega
      have hfinal := hT.rl hm.1
      have hbl := hT.blw
      replace hT := Lib.hid hT
      replace hRr := Lib.hid hRr
      replace hfinal := Lib.hid hfinal
      replace hbl := Lib.hid hbl
      go_wp2_with fail
      go_ret
      exact ⟨_, rfl, hfinal.out, hbl.out⟩
end Go.Proofs.Ytghebijikdnikaa
