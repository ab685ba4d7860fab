/- The contract of the reference's Copy.
  Two things in memory that lie apart; what the program's ledger must keep to; an operation of the law's; do over any ledger that keeps its contracts. -/
import Derived.Test.YtljclgphgojphaaGreatLG6
import Derived.Test.YtljclgphgojphaaGreatLG2
namespace Go.Proofs.YtljclgphgojphaaGreat
open Go.RowKit
set_option linter.unusedVariables false

def ivs (f : Nat → Int) (n : Nat) : List Value := (List.range n).map fun i => Value.int .i64 (f i)
theorem ivs_len (f : Nat → Int) (n : Nat) : (ivs f n).length = n := by unfold ivs; simp
theorem ivs_get (f : Nat → Int) {n i : Nat} (h : i < n) : (ivs f n)[i]? = some (.int .i64 (f i)) := by unfold ivs; rw [List.getElem?_map, List.getElem?_range h]; rfl
set_option maxRecDepth 100000 in
/-- append([]int64{}, row...): a new row -/
theorem appI_run (W : World) (s g n c : Nat) (f : Nat → Int) (hs : W.heap[s]? = some (.cells #[] 2 (0, 0))) (hr : IR W g f n) (h1 : 1 ≤ n) (h8 : n ≤ 1000) :
    ∃ g' c' w', (Builtin.append_ #[62, 62] 62 #[.slice (some ⟨s, 0, none⟩) 0 0, .slice (some ⟨g, 0, none⟩) n c]).run Tryz.prog W = .ok (.slice (some ⟨g', 0, none⟩) n c') w' ∧ IR w' g' f n ∧ s ≤ g' ∧ W.grownBy w' (some s) := by
  obtain ⟨i0, hi, hz0, hz1, hz2⟩ := info_parts Tryz.info2r
  have hown : W.ownsRow s 2 1 (.slice (some ⟨s, 0, none⟩) 0 0) 0 [] := ⟨by simp, .inr ⟨s, 0, #[], rfl, Nat.le_refl _, hs, Nat.le_refl _, by unfold maxLen; omega, by simp, by simp⟩⟩
  obtain ⟨v', w', h2, h3, h4, _⟩ := run_append_own (P := Tryz.prog) W s 62 62 2 i0 (.int .i64 0) 1 8 Tryz.underlying62 hi hz0 hz1 hz2 rfl (by decide) (.slice (some ⟨s, 0, none⟩) 0 0) 0 [] hown ⟨g, 0, none⟩ n c (ivs f n) (by rw [ivs_len]; omega)
    (fun j u hu => by
      have hj : j < n := by have := (List.getElem?_eq_some_iff.1 hu).1; rwa [ivs_len] at this
      rw [ivs_get f hj] at hu
      injection hu with hu
      rw [← hu, Go.WideShapes.add_plain, Nat.zero_add]
      exact hr.cell hj)
    (fun u hu => by unfold ivs at hu; obtain ⟨x, _, rfl⟩ := List.mem_map.1 hu; rfl) (by unfold maxLen; omega) (by omega) (Nat.le_of_lt (obj_lt hs))
  rw [Nat.zero_add, List.nil_append] at h3
  rcases h3.2 with ⟨_, e0⟩ | ⟨g', cap, cur, rfl, hg, hh, hn, hm, hsz, ht⟩
  · omega
  · refine ⟨g', cap, w', h2, ⟨cur, hh, fun i hi => ?_⟩, hg, h4⟩
    have e : (ivs f n)[i]? = cur[i]? := by rw [← ht, List.getElem?_take, if_pos (by omega), Array.getElem?_toList]
    rw [← e, ivs_get f hi]
theorem wpList_run {ops : Array Oper} {rest : List Oper} {o : Oper} {a : Act} {w : World} {Q : Exit → Act → World → Prop} (hgd : o.guard = none) (sl x : Operand) (t t' : TypeId)
    (ho : o.op = .call { callee := .builtin .append, args := #[sl, x], argTypes := #[t, t'] }) (v y v' : Value) (w' : World) (hs : a.eval sl = v) (hx : a.eval x = y) (hr : (Builtin.append_ #[t, t'] o.type #[v, y]).run Tryz.prog w = .ok v' w')
    (h : wpList Tryz.prog ops Q rest (a.put o.dst v') w') : wpList Tryz.prog ops Q (o :: rest) a w := by
  refine wpList_plain hgd fun K hK => ?_
  unfold Oper.wp execOp
  simp only [ho, resolve, invoke, builtin, Sem.run_bind, Sem.run_pure, Result.andThen_ok, List.map_toArray, List.map_cons, List.map_nil, hs, hx, hr]
  exact hK _ _ h
/-- Copy's way: what it holds: k members' rows -/
structure CSt (w : World) (l : LM) (b gN cN k : Nat) (v : Value) (g cp : Nat → Nat) (wr : World) : Prop where
  obj : wr.heap[b]? = some (.cells #[v, .slice (some ⟨gN, 0, none⟩) l.nc cN] 77 (0, 0))
  nos : IR wr gN l.N l.nc
  own : OwnR w.heap.size wr v ((List.range k).map fun m => Value.slice (some ⟨g m, 0, none⟩) l.nc (cp m))
  bal : ∀ m, m < k → IR wr (g m) (l.B m) l.nc ∧ w.heap.size ≤ g m ∧ g m ≠ gN
  apart : ∀ m, m < k → ∀ i, i < k → i ≠ m → g i ≠ g m
  new : w.heap.size ≤ b ∧ w.heap.size ≤ gN
  blw : Below w.heap.size w wr
theorem CSt.rl {w wr : World} {l : LM} {b gN cN : Nat} {v : Value} {g cp : Nat → Nat} (h : CSt w l b gN cN l.nm v g cp wr) (h1 : 1 ≤ l.nm) : RL (fun j => w.heap.size ≤ j) wr b l := by
  have hll : ((List.range l.nm).map fun m => Value.slice (some ⟨g m, 0, none⟩) l.nc (cp m)).length = l.nm := by simp
  obtain ⟨gB, cB, cs, hv, hgB, hh, hcs⟩ := h.own.rows (fun e => by rw [e] at hll; simp at hll; omega)
  rw [hll] at hv
  have ho := h.obj
  rw [hv] at ho
  exact ⟨gB, cB, gN, cN, g, cp, ho, ⟨cs, hh, fun q hq => hcs q _ (by rw [List.getElem?_map, List.getElem?_range hq]; rfl)⟩, h.nos, fun q hq => (h.bal q hq).1, fun q hq => ⟨(h.bal q hq).2.2, fun i hi hne => h.apart q hq i hi hne⟩, ⟨h.new.1, hgB, h.new.2, fun q hq => (h.bal q hq).2.1⟩⟩

set_option maxHeartbeats 8000000 in
set_option maxRecDepth 100000 in
theorem copyRL_any {P : Nat → Prop} {b : Nat} {l : LM} (w : World) (h0 : RL P w b l) (hl : l.Ok) :
    Calls Tryz.prog 55 #[.pointer (some ⟨b, 0, none⟩)] w fun e w' => ∃ b', e = .returned (.pointer (some ⟨b', 0, none⟩)) ∧ RL (fun j => w.heap.size ≤ j) w' b' l ∧ Below w.heap.size w w' := by
  obtain ⟨gB, cB, gN, cN, g0, cp0, h⟩ := h0
  have hm := hl.nm
  have hc := hl.nc
  have c1 := h.c1
  have c1a : (w.alloc (.cells #[] 2)).cell? ⟨b, 1, none⟩ = some (.slice (some ⟨gN, 0, none⟩) l.nc cN) := by rw [World.cell?_alloc_lt _ _ _ (obj_lt h.obj)]; exact c1
  obtain ⟨gN', cN', w1, hrun1, hI1, hs1, hG1⟩ := appI_run (w.alloc (.cells #[] 2)) w.heap.size gN l.nc cN l.N (heap_alloc_new w _) (h.nos.at (Below.heap_alloc _ _ _ h.nos.lt)) hc.1 (by omega)
  have hB1 : Below w.heap.size w w1 := ((Below.refl _ w).alloc (Nat.le_refl _) _).grown hG1 (by simp) (fun k hk => by injection hk with hk; omega)
  have hgl := hI1.lt
  have hS0 : CSt w l w1.heap.size gN' cN' 0 (.slice none 0 0) (fun _ => 0) (fun _ => 0) (w1.alloc (.cells #[.slice none 0 0, .slice (some ⟨gN', 0, none⟩) l.nc cN'] 77)) := by
    refine ⟨heap_alloc_new w1 _, hI1.at (Below.heap_alloc _ _ _ hgl), World.ownsRow_nil _ _ _ _, fun k hk => by omega, fun k hk => by omega, ⟨hB1.size, hs1⟩, hB1.alloc hB1.size _⟩
  generalize hb1 : w1.heap.size = b1 at *
  replace hS0 := Lib.hid hS0
  replace hrun1 := Lib.hid hrun1
  replace hI1 := Lib.hid hI1
  replace hG1 := Lib.hid hG1
  replace hB1 := Lib.hid hB1
  replace hb1 := Lib.hid hb1
  replace h := Lib.hid h
  go_enter Tryz.func55, Tryz.ntmps55
  go_wp2_with (at_builtin; refine wpList_run rfl (.tmp 5) (.tmp 9) 62 62 rfl _ _ _ _ rfl rfl hrun1.out ?_)
  rw [hb1.out]
  go_loopw [4] (fun i wr => ∃ (k : Nat) (v : Value) (g cp : Nat → Nat), k ≤ l.nm ∧ i = .int .i64 (k : Int) ∧ Hid (CSt w l b1 gN' cN' k v g cp wr)) (fun i _ => l.nm - (intOf i).toNat)
  case atStart => exact ⟨0, _, _, _, by omega, rfl, by rw [← hb1.out]; rw [hb1.out]; exact hS0⟩
  case round =>
    obtain ⟨k, v, g, cp, hk, rfl, hS⟩ := hrel
    have hT := hS.out
    have hRr := h.out.below hT.blw
    have c0 := hRr.c0
    by_cases hkn : k < l.nm
    · have kz : (k : Int) < (l.nm : Int) := by omega
      have r0 := hRr.row hkn
      obtain ⟨p, cap, hv⟩ := hT.own.shape
      have hll : ((List.range k).map fun m => Value.slice (some ⟨g m, 0, none⟩) l.nc (cp m)).length = k := by simp
      rw [hll] at hv
      subst hv
      have hbl := obj_lt hT.obj
      have hws := hT.blw.size
      have c0a : ∀ o, (wr.alloc o).cell? ⟨b, 0, none⟩ = some (.slice (some ⟨gB, 0, none⟩) l.nm cB) := fun o => by rw [World.cell?_alloc_lt _ _ _ (obj_lt hRr.obj)]; exact c0
      have r0a : ∀ o, (wr.alloc o).cell? ⟨gB, k, none⟩ = some (.slice (some ⟨g0 k, 0, none⟩) l.nc (cp0 k)) := fun o => by rw [World.cell?_alloc_lt _ _ _ (World.block_lt_of_cell? _ _ r0)]; exact r0
      obtain ⟨g6, c6, w6, hrun6, hI6, hs6, hG6⟩ := appI_run ((wr.alloc (.cells #[] 2)).drew) wr.heap.size (g0 k) l.nc (cp0 k) (l.B k) (heap_alloc_new wr _) ((hRr.bal k hkn).at (Below.heap_alloc _ _ _ (hRr.bal k hkn).lt)) hc.1 (by omega)
      have hk6 : ∀ y, y < wr.heap.size → w6.heap[y]? = wr.heap[y]? := fun y hy => (hG6.block y (by simp; omega) (by intro e; injection e with e; omega)).trans (Below.heap_alloc _ _ _ hy)
      have hsz6 : wr.heap.size < w6.heap.size := Nat.lt_of_lt_of_le (by simp) hG6.size
      have hgl6 := hI6.lt
      have hO7 : OwnR w.heap.size (w6.alloc (.cells #[.slice (some ⟨g6, 0, none⟩) l.nc c6] 62)) (.slice p k cap) ((List.range k).map fun m => Value.slice (some ⟨g m, 0, none⟩) l.nc (cp m)) := hT.own.block fun y hy => (Below.heap_alloc _ _ _ (by have := (hT.own.lt y hy).2; omega)).trans (hk6 y (hT.own.lt y hy).2)
      have hx7 : (w6.alloc (.cells #[.slice (some ⟨g6, 0, none⟩) l.nc c6] 62)).cell? ((⟨w6.heap.size, 0, none⟩ : Addr).add 0) = some (.slice (some ⟨g6, 0, none⟩) l.nc c6) := obj_cell (heap_alloc_new w6 _) rfl
      obtain ⟨v8, w8, hrun8, hO8, hG8⟩ := appR_run _ _ _ _ hO7 (by simp; omega) _ _ hx7 rfl (by rw [hll]; omega)
      have hrow : ∀ y, Value.ownBlock (.slice p k cap) = some y → ∃ cs, wr.heap[y]? = some (.cells cs 62 (0, 0)) := fun y hy => by
        rcases hT.own.2 with ⟨e2, _⟩ | ⟨q, c3, cur, e2, _, hq, _⟩
        · rw [e2] at hy; cases hy
        · rw [e2] at hy
          injection hy with hy
          subst hy
          exact ⟨cur, hq⟩
      have hk8 : ∀ y, y < wr.heap.size → (∀ cs, wr.heap[y]? = some (.cells cs 62 (0, 0)) → False) → w8.heap[y]? = wr.heap[y]? := fun y hy hn => (hG8.block y (by simp; omega) (fun e => by obtain ⟨cs, hcs⟩ := hrow y e.symm; exact hn cs hcs)).trans ((Below.heap_alloc _ _ _ (by omega)).trans (hk6 y hy))
      have hobj8 := (hk8 _ hbl (fun cs e => by rw [hT.obj] at e; simp at e)).trans hT.obj
      have hI8 : IR w8 g6 (l.B k) l.nc := hI6.at ((hG8.block _ (by simp; omega) (fun e => by obtain ⟨cs, hcs⟩ := hrow _ e.symm; have := obj_lt hcs; omega)).trans (Below.heap_alloc _ _ _ hgl6))
      have hlist : ((List.range (k + 1)).map fun m => Value.slice (some ⟨upd g k g6 m, 0, none⟩) l.nc (upd cp k c6 m)) = ((List.range k).map fun m => Value.slice (some ⟨g m, 0, none⟩) l.nc (cp m)) ++ [Value.slice (some ⟨g6, 0, none⟩) l.nc c6] := by
        rw [List.range_succ, List.map_append]
        congr 1
        · refine List.map_congr_left fun q hq => ?_
          rw [upd_other _ _ (by have := List.mem_range.1 hq; omega), upd_other _ _ (by have := List.mem_range.1 hq; omega)]
        · simp [upd_same]
      have hO9 : OwnR w.heap.size (w8.setCell ⟨b1, 0, none⟩ v8) v8 ((List.range (k + 1)).map fun m => Value.slice (some ⟨upd g k g6 m, 0, none⟩) l.nc (upd cp k c6 m)) := by
        rw [hlist]
        refine hO8.block fun y hy => obj_other _ ?_
        rintro rfl
        rcases hO8.2 with ⟨e2, _⟩ | ⟨q, c3, cur, e2, _, hq, _⟩
        · rw [e2] at hy; cases hy
        · rw [e2] at hy
          injection hy with hy
          subst hy
          rw [hobj8] at hq
          simp at hq
      have hfin : CSt w l b1 gN' cN' (k + 1) v8 (upd g k g6) (upd cp k c6) (w8.setCell ⟨b1, 0, none⟩ v8) := by
        have hset : ∀ y f, IR w8 y f l.nc → IR (w8.setCell ⟨b1, 0, none⟩ v8) y f l.nc := fun y f h => by
          obtain ⟨cs, i1, i2⟩ := h
          exact ⟨cs, (obj_other _ (ty_ne i1 hobj8 (by decide))).trans i1, i2⟩
        have hIR : ∀ y f, IR wr y f l.nc → IR (w8.setCell ⟨b1, 0, none⟩ v8) y f l.nc := fun y f h => by
          refine hset y f (h.at (hk8 y h.lt fun cs e => ?_))
          obtain ⟨cs', i1, i2⟩ := h
          rw [i1] at e
          simp at e
        refine ⟨obj_set hobj8 0 v8, hIR _ _ hT.nos, hO9, fun q hq => ?_, fun q hq i hi hne => ?_, hT.new, ?_⟩
        · by_cases e : q = k
          · subst e
            rw [upd_same]
            exact ⟨hset _ _ hI8, by omega, by have := hT.nos.lt; omega⟩
          · rw [upd_other _ _ e]
            have hb := hT.bal q (by omega)
            exact ⟨hIR _ _ hb.1, hb.2⟩
        · by_cases e : q = k
          · subst e
            rw [upd_same, upd_other _ _ hne]
            have := (hT.bal i (by omega)).1.lt
            omega
          · rw [upd_other _ _ e]
            by_cases e2 : i = k
            · subst e2
              rw [upd_same]
              have := (hT.bal q (by omega)).1.lt
              omega
            · rw [upd_other _ _ e2]
              exact hT.apart q (by omega) i (by omega) hne
        · have hB6 : Below wr.heap.size wr w6 := (((Below.refl _ wr).alloc (Nat.le_refl _) _).drew).grown hG6 (by simp) (fun y hy => by injection hy with hy; omega)
          have hB8 : Below w.heap.size w w8 := ((hT.blw.trans (hB6.mono hws)).alloc (by omega) _).grown hG8 (by simp; omega) (fun y hy => (hO7.lt y hy).1)
          exact hB8.setCell (by show w.heap.size ≤ b1; exact hT.new.1) _
      have k0 : wr.cell? ⟨b1, 0, none⟩ = some (.slice p k cap) := obj_cell hT.obj rfl
      have k0a : ∀ o, (wr.alloc o).cell? ⟨b1, 0, none⟩ = some (.slice p k cap) := fun o => by rw [World.cell?_alloc_lt _ _ _ hbl]; exact k0
      have k06 : w6.cell? ⟨b1, 0, none⟩ = some (.slice p k cap) := obj_cell ((hk6 _ hbl).trans hT.obj) rfl
      have k06a : ∀ o, (w6.alloc o).cell? ⟨b1, 0, none⟩ = some (.slice p k cap) := fun o => by rw [World.cell?_alloc_lt _ _ _ (by show b1 < w6.heap.size; omega)]; exact k06
      have c8 : w8.cell? ⟨b1, 0, none⟩ = some (.slice p k cap) := obj_cell hobj8 rfl
      have z8 := obj_free hobj8 0
      obtain ⟨p8, cap8, hv8⟩ := hO9.shape
      subst hv8
      generalize ((List.range (k + 1)).map fun m => Value.slice (some ⟨upd g k g6 m, 0, none⟩) l.nc (upd cp k c6 m)).length = n8 at *
      replace hfin := Lib.hid hfin
      replace hrun6 := Lib.hid hrun6
      replace hrun8 := Lib.hid hrun8
      replace hO7 := Lib.hid hO7
      replace hO8 := Lib.hid hO8
      replace hO9 := Lib.hid hO9
      replace hG6 := Lib.hid hG6
      replace hG8 := Lib.hid hG8
      replace hI6 := Lib.hid hI6
      replace hI8 := Lib.hid hI8
      replace hx7 := Lib.hid hx7
      replace hk6 := Lib.hid hk6
      replace hk8 := Lib.hid hk8
      replace hT := Lib.hid hT
      replace hRr := Lib.hid hRr
      replace hobj8 := Lib.hid hobj8
      replace hrow := Lib.hid hrow
      replace hlist := Lib.hid hlist
      replace hll := Lib.hid hll
      go_upto_region 5 with (fail)
      go_region_law (first | (refine step_appR rfl (.tmp 27) (.tmp 34) 62 62 rfl _ _ _ _ rfl rfl hrun6.out ?_) | (refine step_appR rfl (.tmp 26) (.tmp 36) 61 61 rfl _ _ _ _ rfl rfl hrun8.out ?_))
      all_goals
        go_wp2_with fail
        go_roundw
        case rel => exact ⟨k + 1, _, _, _, by omega, by go_num, hfin⟩
        case measure => simp [intOf]; omega
    · obtain rfl : k = l.nm := by omega
      have kz : ¬ (l.nm : Int) < (l.nm : Int) := by omega
      have hfinal := hT.rl hm.1
      have hbl := hT.blw
      replace hT := Lib.hid hT
      replace hRr := Lib.hid hRr
      replace hfinal := Lib.hid hfinal
      replace hbl := Lib.hid hbl
      go_wp2_with fail
      go_ret
      exact ⟨_, rfl, hfinal.out, hbl.out⟩
end Go.Proofs.YtljclgphgojphaaGreat
namespace Go.Proofs.YtljclgphgojphaaGreat
open Go.RowKit
set_option linter.unusedVariables false

/-- a thing in memory, with its blocks -/
structure Live (X : (Nat → Prop) → World → Prop) : Prop where
  kept : ∀ {P : Nat → Prop} {w w' : World} {F : Nat → Prop}, X P w → Kp F w w' → (∀ j, j < w.heap.size → P j → ¬ F j) → X P w'
  weak : ∀ {P Q : Nat → Prop} {w : World}, X P w → (∀ j, j < w.heap.size → P j → Q j) → X Q w

/-- two things that lie apart, beside what stays -/
def Apart (G : Nat → Prop) (X Y : (Nat → Prop) → World → Prop) (w : World) : Prop :=
  ∃ PF RF : Nat → Prop, X PF w ∧ Y RF w ∧ (∀ j, PF j → ¬ RF j ∧ ¬ G j ∧ j < w.heap.size) ∧ (∀ j, RF j → ¬ G j ∧ j < w.heap.size)

theorem Apart.swap {G : Nat → Prop} {X Y : (Nat → Prop) → World → Prop} {w : World} (h : Apart G X Y w) : Apart G Y X w := by
  obtain ⟨PF, RF, hX, hY, h1, h2⟩ := h
  exact ⟨RF, PF, hY, hX, fun j hj => ⟨fun hp => (h1 j hp).1 hj, h2 j hj⟩, fun j hj => (h1 j hj).2⟩
/-- a call of the first one's -/
theorem Apart.call {α : Type} {G : Nat → Prop} {X Y : (Nat → Prop) → World → Prop} {X' : α → (Nat → Prop) → World → Prop} {φ : α → Ending → Prop} {w : World} {f : FuncId} {args : Array Value}
    (lX : Live X) (lX' : ∀ x, Live (X' x)) (lY : Live Y) (hG : ∀ j, G j → j < w.heap.size) (h : Apart G X Y w)
    (hc : ∀ P : Nat → Prop, X P w → (∀ i, w.heap.size ≤ i → P i) → Calls Tryz.prog f args w fun e w' => ∃ x, φ x e ∧ X' x P w' ∧ Kp P w w') :
    Calls Tryz.prog f args w fun e w' => ∃ x, φ x e ∧ Apart G (X' x) Y w' ∧ Kp (fun j => ¬ G j) w w' := by
  obtain ⟨PF, RF, hX, hY, h1, h2⟩ := h
  refine (hc (fun j => PF j ∨ w.heap.size ≤ j) (lX.weak hX fun j _ hj => .inl hj) (fun i hi => .inr hi)).mono ?_
  rintro e w' ⟨x, he, hx, hK⟩
  refine ⟨x, he, ⟨fun j => (PF j ∨ w.heap.size ≤ j) ∧ j < w'.heap.size, RF, (lX' x).weak hx fun j hl hj => ⟨hj, hl⟩, lY.kept hY hK fun j hl hr hp => ?_, fun j hj => ⟨fun hr => ?_, fun hg => ?_, hj.2⟩, fun j hj => ⟨(h2 j hj).1, Nat.lt_of_lt_of_le (h2 j hj).2 hK.size⟩⟩, hK.mono fun j hl hp hg => ?_⟩
  · rcases hp with hp | hp
    · exact (h1 j hp).1 hr
    · omega
  · rcases hj.1 with hp | hp
    · exact (h1 j hp).1 hr
    · have := (h2 j hr).2; omega
  · rcases hj.1 with hp | hp
    · exact (h1 j hp).2.1 hg
    · have := hG j hg; omega
  · rcases hp with hp | hp
    · exact (h1 j hp).2.1 hg
    · omega
/-- a call that only reads, or makes what is new -/
theorem Apart.below {G : Nat → Prop} {X Y : (Nat → Prop) → World → Prop} {w w' : World} (lX : Live X) (lY : Live Y) (h : Apart G X Y w) (hb : Below w.heap.size w w') : Apart G X Y w' := by
  obtain ⟨PF, RF, hX, hY, h1, h2⟩ := h
  have k := Kp.of_below (F := fun _ => False) hb
  exact ⟨PF, RF, lX.kept hX k (fun _ _ _ h => h), lY.kept hY k (fun _ _ _ h => h), fun j hj => ⟨(h1 j hj).1, (h1 j hj).2.1, Nat.lt_of_lt_of_le (h1 j hj).2.2 hb.size⟩, fun j hj => ⟨(h2 j hj).1, Nat.lt_of_lt_of_le (h2 j hj).2 hb.size⟩⟩
/-- more stays: what has been made since -/
theorem Apart.more {G G' : Nat → Prop} {X Y : (Nat → Prop) → World → Prop} {w w' : World} (lX : Live X) (lY : Live Y) (h : Apart G X Y w) (hb : Below w.heap.size w w') (hG : ∀ j, j < w.heap.size → G' j → G j) : Apart G' X Y w' := by
  obtain ⟨PF, RF, hX, hY, h1, h2⟩ := h
  have k := Kp.of_below (F := fun _ => False) hb
  exact ⟨PF, RF, lX.kept hX k (fun _ _ _ h => h), lY.kept hY k (fun _ _ _ h => h), fun j hj => ⟨(h1 j hj).1, fun hg => (h1 j hj).2.1 (hG j (h1 j hj).2.2 hg), Nat.lt_of_lt_of_le (h1 j hj).2.2 hb.size⟩, fun j hj => ⟨fun hg => (h2 j hj).1 (hG j (h2 j hj).2 hg), Nat.lt_of_lt_of_le (h2 j hj).2 hb.size⟩⟩
/-- what the first one is -/
theorem Apart.map {G : Nat → Prop} {X X' Y : (Nat → Prop) → World → Prop} {w : World} (h : Apart G X Y w) (f : ∀ P, X P w → X' P w) : Apart G X' Y w := by
  obtain ⟨PF, RF, hX, hY, r⟩ := h; exact ⟨PF, RF, f _ hX, hY, r⟩


/-- a row of postings that is read -/
def PRow (w : World) (p : Option Addr) (len : Nat) (ps : List Pst) : Prop :=
  ps.length = len ∧ (∀ q ∈ ps, In64 q.m ∧ In64 q.c ∧ In64 q.a) ∧ (len = 0 ∨ ∃ b off, p = some ⟨b, off, none⟩ ∧ b < w.heap.size ∧ ∀ i q, ps[i]? = some q →
    w.cell? ⟨b, off + i * 3, none⟩ = some (.int .i64 q.m) ∧ w.cell? ⟨b, off + i * 3 + 1, none⟩ = some (.int .i64 q.c) ∧ w.cell? ⟨b, off + i * 3 + 2, none⟩ = some (.int .i64 q.a))
theorem PRow.kept {w w' : World} {p : Option Addr} {len : Nat} {ps : List Pst} (h : PRow w p len ps) (hb : Below w.heap.size w w') : PRow w' p len ps := by
  obtain ⟨h1, h2, h3⟩ := h
  refine ⟨h1, h2, h3.imp id ?_⟩
  rintro ⟨b, off, rfl, hlt, hc⟩
  refine ⟨b, off, rfl, Nat.lt_of_lt_of_le hlt hb.size, fun i q hq => ?_⟩
  obtain ⟨c0, c1, c2⟩ := hc i q hq
  exact ⟨(hb.cell (p := ⟨b, off + i * 3, none⟩) hlt).trans c0, (hb.cell (p := ⟨b, off + i * 3 + 1, none⟩) hlt).trans c1, (hb.cell (p := ⟨b, off + i * 3 + 2, none⟩) hlt).trans c2⟩
/-- an operation of the law's -/
structure LOp where
  Do : Int
  m : Int
  c : Int
  v : Int
  a : Int
  g : Int
  p : Option Addr
  len : Nat
  cap : Nat
  ps : List Pst
def LOp.arr (x : LOp) : Array Value := #[.int .i64 x.Do, .int .i64 x.m, .int .i64 x.c, .int .i64 x.v, .int .i64 x.a, .int .i64 x.g, .slice x.p x.len x.cap]
structure LOp.Ok (x : LOp) (w : World) : Prop where
  a : In64 x.a
  g : In64 x.g
  b : PRow w x.p x.len x.ps
/-- what it makes of a ledger -/
def LM.doo (l : LM) (x : LOp) : Int × LM :=
  if x.Do = 0 then l.inn x.m x.c x.a else if x.Do = 1 then l.out x.m x.c x.a else if x.Do = 3 then l.swap x.m x.c x.v x.a x.g else l.post x.ps
theorem doo_good {l : LM} (h : l.Good) (x : LOp) : (l.doo x).2.Good ∧ l.like (l.doo x).2 ∧ ((l.doo x).1 ≠ 0 → (l.doo x).2 = l) := by
  unfold LM.doo
  split
  · exact inn_good h _ _ _
  split
  · exact out_good h _ _ _
  split
  · exact swap_good h _ _ _ _ _
  · exact post_good h _
end Go.Proofs.YtljclgphgojphaaGreat
