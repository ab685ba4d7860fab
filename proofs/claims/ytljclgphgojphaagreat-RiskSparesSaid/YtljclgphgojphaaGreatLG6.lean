/- The contract of the reference's New. -/
import Derived.Test.YtljclgphgojphaaGreatLG2
import Derived.Deep.RegionLaw
import Derived.Laws.AppendOwn
import Derived.Laws.MakeOwn
namespace Go.Proofs.YtljclgphgojphaaGreat
open Go.RowKit
set_option linter.unusedVariables false

/-- a slice of slices of the call's own -/
def OwnR (B : Nat) (w : World) (v : Value) (xs : List Value) : Prop := w.ownsRow B 62 1 v xs.length xs
theorem Tryz.info42r : (Tryz.prog.info? 62).map (fun i => (i.zero, i.size, i.bytes)) = some (some (.slice none 0 0), 1, 24) := by kernel_rfl
theorem Tryz.info2r : (Tryz.prog.info? 2).map (fun i => (i.zero, i.size, i.bytes)) = some (some (.int .i64 0), 1, 8) := by kernel_rfl
theorem OwnR.block {B : Nat} {w w' : World} {v : Value} {l : List Value} (h : OwnR B w v l) (hb : ∀ g, v.ownBlock = some g → w'.heap[g]? = w.heap[g]?) : OwnR B w' v l := by
  obtain ⟨hlen, h⟩ := h
  refine ⟨hlen, h.imp id ?_⟩
  rintro ⟨g, cap, cur, rfl, hg, hh, r⟩
  exact ⟨g, cap, cur, rfl, hg, (hb g rfl).trans hh, r⟩
theorem OwnR.lt {B : Nat} {w : World} {v : Value} {l : List Value} (h : OwnR B w v l) : ∀ k, v.ownBlock = some k → B ≤ k ∧ k < w.heap.size := World.ownsRow.lt h
theorem OwnR.shape {B : Nat} {w : World} {v : Value} {l : List Value} (h : OwnR B w v l) : ∃ p cap, v = .slice p l.length cap := by
  rcases h.2 with ⟨rfl, h0⟩ | ⟨g, cap, cur, rfl, _⟩
  · exact ⟨none, 0, by rw [h0]⟩
  · exact ⟨_, cap, rfl⟩
theorem OwnR.rows {B : Nat} {w : World} {v : Value} {l : List Value} (h : OwnR B w v l) (h0 : l ≠ []) : ∃ (g cap : Nat) (cs : Array Value), v = .slice (some ⟨g, 0, none⟩) l.length cap ∧ B ≤ g ∧ w.heap[g]? = some (.cells cs 62 (0, 0)) ∧ ∀ (i : Nat) (x : Value), l[i]? = some x → cs[i]? = some x := by
  rcases h.2 with ⟨rfl, h1⟩ | ⟨g, cap, cur, rfl, hg, hh, hn, hm, hs, ht⟩
  · exact absurd (List.eq_nil_of_length_eq_zero h1) h0
  · refine ⟨g, cap, cur, rfl, hg, hh, fun i x hx => ?_⟩
    rw [← ht, List.getElem?_take] at hx
    split at hx
    · rwa [Array.getElem?_toList] at hx
    · cases hx
set_option maxRecDepth 100000 in
theorem appR_run (w : World) (B : Nat) (v : Value) (l : List Value) (hown : OwnR B w v l) (hB : B ≤ w.heap.size) (a : Addr) (x : Value) (hx : w.cell? (a.add 0) = some x) (h1 : x.oneCell' = true) (hn : l.length + 1 ≤ 1000) :
    ∃ v' w', (Builtin.append_ #[61, 61] 61 #[v, .slice (some a) 1 1]).run Tryz.prog w = .ok v' w' ∧ OwnR B w' v' (l ++ [x]) ∧ w.grownBy w' v.ownBlock := by
  obtain ⟨i0, hi, hz0, hz1, hz2⟩ := info_parts Tryz.info42r
  obtain ⟨v', w', h2, h3, h4, _⟩ := run_append_own (P := Tryz.prog) w B 61 61 62 i0 (.slice none 0 0) 1 24 Tryz.underlying61 hi hz0 hz1 hz2 rfl (by decide) v l.length l hown a 1 1 [x] rfl
    (fun j u hu => by
      match j with
      | 0 => injection hu with hu; rw [← hu]; exact hx
      | j + 1 => simp at hu)
    (fun u hu => by obtain rfl := List.mem_singleton.1 hu; exact h1) (by unfold maxLen; omega) (by omega) hB
  refine ⟨v', w', h2, ?_, h4⟩
  unfold OwnR
  rw [List.length_append]
  exact h3
theorem step_appR {P : Program} {ops : Array Oper} {o : Oper} {a : Act} {w : World} {K : Act → World → Prop} {Q : Exit → Act → World → Prop} {E : Prop}
    (hg : o.guard = none) (s x : Operand) (t t' : TypeId) (hop : o.op = Op.call { callee := Callee.builtin Builtin.append, args := #[s, x], argTypes := #[t, t'] })
    (v y v' : Value) (w' : World) (hs : a.eval s = v) (hx : a.eval x = y) (hr : (Builtin.append_ #[t, t'] o.type #[v, y]).run P w = .ok v' w') (hK : K (a.put o.dst v') w') :
    if Region.wanted o (yielded ops a.tmps) = true then Oper.wp P o a w K Q else E := by
  have hw : Region.wanted o (yielded ops a.tmps) = true := by simp [Region.wanted, hg]
  rw [if_pos hw]
  unfold Oper.wp
  simp [execOp, hop, resolve, invoke, builtin, hs, hx, hr, Result.andThen]
  exact hK
/-- rows of amounts that are 0 -/
def zi (n : Nat) : Array Value := madeCells #[Value.int .i64 0] n
theorem zi_get (n : Nat) : ∀ i, i < n → (zi n)[i]? = some (.int .i64 0) := fun i hi => by
  unfold zi madeCells
  simp [hi, Nat.mod_one]
theorem make_amounts (n : Nat) (hn : n ≤ 1000) (w : World) :
    (Instr.makeSlice 62 (.int .i64 (n : Int)) (.int .i64 (n : Int))).run Tryz.prog w = .ok (.slice (some ⟨w.heap.size, 0, none⟩) n n) (w.alloc (.cells (zi n) 2)) := by
  obtain ⟨i0, hi, hz0, hz1, hz2⟩ := info_parts Tryz.info2r
  have hb : (i0.bytes : Int) * (n : Int) ≤ 281474976710656 := by rw [hz2]; omega
  have hr := run_make (P := Tryz.prog) w 62 2 i0 (.int .i64 0) Tryz.underlying62 hi hz0 .i64 .i64 n n (by omega) (by omega) hb (by omega)
  simp only [Int.toNat_natCast, hz1, Nat.mul_one] at hr
  exact hr
theorem IR.zero {w : World} {g n : Nat} (h : w.heap[g]? = some (.cells (zi n) 2 (0, 0))) : IR w g (fun _ => 0) n := ⟨_, h, zi_get n⟩

/-- New's way: what it holds: k members' rows -/
structure NSt (w : World) (nc b gN k : Nat) (v : Value) (g : Nat → Nat) (wr : World) : Prop where
  obj : wr.heap[b]? = some (.cells #[v, .slice (some ⟨gN, 0, none⟩) nc nc] 77 (0, 0))
  nos : IR wr gN (fun _ => 0) nc
  own : OwnR w.heap.size wr v ((List.range k).map fun m => Value.slice (some ⟨g m, 0, none⟩) nc nc)
  bal : ∀ m, m < k → IR wr (g m) (fun _ => 0) nc ∧ w.heap.size ≤ g m ∧ g m ≠ gN
  apart : ∀ m, m < k → ∀ i, i < k → i ≠ m → g i ≠ g m
  new : w.heap.size ≤ b ∧ w.heap.size ≤ gN
  blw : Below w.heap.size w wr

def newOk (nm nc : Int) : Bool := decide (1 ≤ nm ∧ nm ≤ 16 ∧ 1 ≤ nc ∧ nc ≤ 8)
/-- what New tells -/
def NewP (nm nc : Int) (w : World) (e : Ending) (w' : World) : Prop :=
  (newOk nm nc = true → ∃ b, e = .returned (.tuple #[.pointer (some ⟨b, 0, none⟩), .int .i64 0]) ∧ RL (fun j => w.heap.size ≤ j) w' b (LM.new nm.toNat nc.toNat)) ∧
  (newOk nm nc = false → e = .returned (.tuple #[.pointer none, .int .i64 1])) ∧ Below w.heap.size w w'
set_option maxHeartbeats 8000000 in
set_option maxRecDepth 100000 in
theorem newRL_any (nm nc : Int) (w : World) : Calls Tryz.prog 9 #[.int .i64 nm, .int .i64 nc] w (NewP nm nc w) := by
  by_cases h1 : nm < 1
  · go_enter Tryz.func9, Tryz.ntmps9
    go_wp2_with fail
    go_ret2
    exact ⟨fun e => absurd e (by unfold newOk; simp; omega), fun _ => rfl, Below.refl _ _⟩
  by_cases h2 : 16 < nm
  · go_enter Tryz.func9, Tryz.ntmps9
    go_wp2_with fail
    go_ret2
    exact ⟨fun e => absurd e (by unfold newOk; simp; omega), fun _ => rfl, Below.refl _ _⟩
  by_cases h3 : nc < 1
  · go_enter Tryz.func9, Tryz.ntmps9
    go_wp2_with fail
    go_ret2
    exact ⟨fun e => absurd e (by unfold newOk; simp; omega), fun _ => rfl, Below.refl _ _⟩
  by_cases h4 : 8 < nc
  · go_enter Tryz.func9, Tryz.ntmps9
    go_wp2_with fail
    go_ret2
    exact ⟨fun e => absurd e (by unfold newOk; simp; omega), fun _ => rfl, Below.refl _ _⟩
  obtain ⟨n, rfl⟩ : ∃ n : Nat, nm = n := ⟨nm.toNat, by omega⟩
  obtain ⟨m, rfl⟩ : ∃ m : Nat, nc = m := ⟨nc.toNat, by omega⟩
  have hmk := fun w => make_amounts m (by omega) w
  have hS0 : NSt w m (w.heap.size + 1) w.heap.size 0 (.slice none 0 0) (fun _ => 0) ((w.alloc (.cells (zi m) 2)).alloc (.cells #[.slice none 0 0, .slice (some ⟨w.heap.size, 0, none⟩) m m] 77)) := by
    refine ⟨heap_alloc2_new w _ _, IR.zero (heap_alloc2_old w _ _), World.ownsRow_nil _ _ _ _, fun k hk => by omega, fun k hk => by omega, ⟨by omega, by omega⟩, ?_⟩
    exact ((Below.refl _ _).alloc (Nat.le_refl _) _).alloc (by simp) _
  generalize hz : zi m = z at *
  replace hS0 := Lib.hid hS0
  replace hz := Lib.hid hz
  go_enter Tryz.func9, Tryz.ntmps9
  go_wp2_with fail
  go_loopw [7] (fun i wr => ∃ (k : Nat) (v : Value) (g : Nat → Nat), k ≤ n ∧ i = .int .i64 (k : Int) ∧ Hid (NSt w m (w.heap.size + 1) w.heap.size k v g wr)) (fun i _ => n - (intOf i).toNat)
  case atStart => exact ⟨0, _, _, by omega, rfl, hS0⟩
  case round =>
    obtain ⟨k, v, g, hk, rfl, hS⟩ := hrel
    by_cases hkn : k < n
    · have kz : (k : Int) < (n : Int) := by omega
      have hT := hS.out
      obtain ⟨p, cap, hv⟩ := hT.own.shape
      have hll : ((List.range k).map fun m_1 => Value.slice (some ⟨g m_1, 0, none⟩) m m).length = k := by simp
      rw [hll] at hv
      subst hv
      have hbl := obj_lt hT.obj
      have hOW : OwnR w.heap.size (((wr.alloc (.cells z 2)).alloc (.cells #[.slice (some ⟨wr.heap.size, 0, none⟩) m m] 62)).drew) (.slice p k cap) ((List.range k).map fun m_1 => Value.slice (some ⟨g m_1, 0, none⟩) m m) := hT.own.block fun y hy => (Below.heap_alloc _ _ _ (by have := (hT.own.lt y hy).2; simp; omega)).trans (Below.heap_alloc _ _ _ (by exact (hT.own.lt y hy).2))
      have hxW : (((wr.alloc (.cells z 2)).alloc (.cells #[.slice (some ⟨wr.heap.size, 0, none⟩) m m] 62)).drew).cell? ((⟨wr.heap.size + 1, 0, none⟩ : Addr).add 0) = some (.slice (some ⟨wr.heap.size, 0, none⟩) m m) := obj_cell (heap_alloc2_new wr _ _) rfl
      have hrowW : (((wr.alloc (.cells z 2)).alloc (.cells #[.slice (some ⟨wr.heap.size, 0, none⟩) m m] 62)).drew).heap[wr.heap.size]? = some (.cells z 2 (0, 0)) := heap_alloc2_old wr _ _
      have hBW : Below wr.heap.size wr (((wr.alloc (.cells z 2)).alloc (.cells #[.slice (some ⟨wr.heap.size, 0, none⟩) m m] 62)).drew) := (((Below.refl wr.heap.size wr).alloc (Nat.le_refl _) _).alloc (by simp) _).drew
      obtain ⟨v6, w6, hrun6, hO6, hG6⟩ := appR_run _ _ _ _ hOW (by have := hT.blw.size; simp; omega) _ _ hxW rfl (by rw [hll]; omega)
      have hk6 : ∀ y, y < wr.heap.size → (∀ cs, wr.heap[y]? = some (.cells cs 62 (0, 0)) → False) → w6.heap[y]? = wr.heap[y]? := fun y hy hn => (hG6.block y (by simp; omega) (fun e => by
        rcases hT.own.2 with ⟨e2, _⟩ | ⟨q, c3, cur, e2, _, hq, _⟩
        · rw [e2] at e; cases e
        · rw [e2] at e
          injection e with e
          subst e
          exact hn _ hq)).trans (hBW.block y hy)
      have hobj6 := (hk6 _ hbl (fun cs e => by rw [hT.obj] at e; simp at e)).trans hT.obj
      have hnew6 : w6.heap[wr.heap.size]? = some (.cells z 2 (0, 0)) := (hG6.block _ (by simp; omega) (fun e => by have := (hT.own.lt _ e.symm).2; omega)).trans hrowW
      have hO7 : OwnR w.heap.size (w6.setCell ⟨w.heap.size + 1, 0, none⟩ v6) v6 ((List.range (k + 1)).map fun m_1 => Value.slice (some ⟨upd g k wr.heap.size m_1, 0, none⟩) m m) := by
        have e : ((List.range (k + 1)).map fun m_1 => Value.slice (some ⟨upd g k wr.heap.size m_1, 0, none⟩) m m) = ((List.range k).map fun m_1 => Value.slice (some ⟨g m_1, 0, none⟩) m m) ++ [Value.slice (some ⟨wr.heap.size, 0, none⟩) m m] := by
          rw [List.range_succ, List.map_append]
          congr 1
          · refine List.map_congr_left fun q hq => ?_
            rw [upd_other _ _ (by have := List.mem_range.1 hq; omega)]
          · simp [upd_same]
        rw [e]
        refine hO6.block fun y hy => obj_other _ ?_
        rintro rfl
        rcases hO6.2 with ⟨e2, _⟩ | ⟨q, c3, cur, e2, _, hq, _⟩
        · rw [e2] at hy; cases hy
        · rw [e2] at hy
          injection hy with hy
          subst hy
          rw [hobj6] at hq
          simp at hq
      have hfin : NSt w m (w.heap.size + 1) w.heap.size (k + 1) v6 (upd g k wr.heap.size) (w6.setCell ⟨w.heap.size + 1, 0, none⟩ v6) := by
        have hIR : ∀ y f, IR wr y f m → IR (w6.setCell ⟨w.heap.size + 1, 0, none⟩ v6) y f m := fun y f h => by
          obtain ⟨cs, i1, i2⟩ := h
          have i3 := (hk6 y (obj_lt i1) (fun cs e => by rw [i1] at e; simp at e)).trans i1
          exact ⟨cs, (obj_other _ (ty_ne i3 hobj6 (by decide))).trans i3, i2⟩
        refine ⟨obj_set hobj6 0 v6, hIR _ _ hT.nos, hO7, fun q hq => ?_, fun q hq i hi hne => ?_, hT.new, ?_⟩
        · by_cases e : q = k
          · subst e
            rw [upd_same]
            refine ⟨?_, hT.blw.size, by have := hT.nos.lt; omega⟩
            rw [← hz.out] at hnew6
            have := IR.zero hnew6
            obtain ⟨cs, i1, i2⟩ := this
            exact ⟨cs, (obj_other _ (ty_ne i1 hobj6 (by decide))).trans i1, i2⟩
          · rw [upd_other _ _ e]
            have hb := hT.bal q (by omega)
            exact ⟨hIR _ _ hb.1, hb.2⟩
        · by_cases e : q = k
          · subst e
            rw [upd_same, upd_other _ _ hne]
            have := (hT.bal i (by omega)).1.lt
            omega
          · rw [upd_other _ _ e]
            by_cases e2 : i = k
            · subst e2
              rw [upd_same]
              have := (hT.bal q (by omega)).1.lt
              omega
            · rw [upd_other _ _ e2]
              exact hT.apart q (by omega) i (by omega) hne
        · have hB6 : Below w.heap.size w w6 := (hT.blw.trans (hBW.mono hT.blw.size)).grown hG6 (by have := hT.blw.size; simp; omega) (fun y hy => (hOW.lt y hy).1)
          exact hB6.setCell (by show w.heap.size ≤ w.heap.size + 1; omega) _
      have k0 : wr.cell? ⟨w.heap.size + 1, 0, none⟩ = some (.slice p k cap) := obj_cell hT.obj rfl
      have k0a : ∀ o, (wr.alloc o).cell? ⟨w.heap.size + 1, 0, none⟩ = some (.slice p k cap) := fun o => by rw [World.cell?_alloc_lt _ _ _ (by exact hbl)]; exact k0
      have k0b : ∀ o o', ((wr.alloc o).alloc o').cell? ⟨w.heap.size + 1, 0, none⟩ = some (.slice p k cap) := fun o o' => by rw [World.cell?_alloc_lt _ _ _ (by show w.heap.size + 1 < _; simp; omega)]; exact k0a o
      have c6 : w6.cell? ⟨w.heap.size + 1, 0, none⟩ = some (.slice p k cap) := obj_cell hobj6 rfl
      have z6 := obj_free hobj6 0
      obtain ⟨p6, cap6, hv6⟩ := hO7.shape
      subst hv6
      generalize ((List.range (k + 1)).map fun m_1 => Value.slice (some ⟨upd g k wr.heap.size m_1, 0, none⟩) m m).length = n6 at *
      replace hfin := Lib.hid hfin
      replace hrun6 := Lib.hid hrun6
      replace hO6 := Lib.hid hO6
      replace hO7 := Lib.hid hO7
      replace hG6 := Lib.hid hG6
      replace hOW := Lib.hid hOW
      replace hxW := Lib.hid hxW
      replace hrowW := Lib.hid hrowW
      replace hBW := Lib.hid hBW
      replace hk6 := Lib.hid hk6
      replace hT := Lib.hid hT
      replace hobj6 := Lib.hid hobj6
      replace hnew6 := Lib.hid hnew6
      replace hll := Lib.hid hll
      go_upto_region 7 with (fail)
      go_region_law (first | (refine step_appR rfl (.tmp 35) (.tmp 38) 61 61 rfl _ _ _ _ rfl rfl hrun6.out ?_))
      all_goals
        go_wp2_with fail
        go_roundw
        case rel => exact ⟨k + 1, _, _, by omega, by go_num, hfin⟩
        case measure => simp [intOf]; omega
    · obtain rfl : k = n := by omega
      have kz : ¬ (k : Int) < (k : Int) := by omega
      have hT := hS.out
      have hll : ((List.range k).map fun m_1 => Value.slice (some ⟨g m_1, 0, none⟩) m m).length = k := by simp
      obtain ⟨gB, cB, cs, hv, hgB, hh, hcs⟩ := hT.own.rows (fun e => by rw [e] at hll; simp at hll; omega)
      rw [hll] at hv
      have hfinal : RL (fun j => w.heap.size ≤ j) wr (w.heap.size + 1) (LM.new k m) := by
        have ho := hT.obj
        rw [hv] at ho
        exact ⟨gB, cB, w.heap.size, m, g, fun _ => m, ho, ⟨cs, hh, fun q hq => hcs q _ (by rw [List.getElem?_map, List.getElem?_range (show q < k from hq)]; rfl)⟩, hT.nos, fun q hq => (hT.bal q hq).1, fun q hq => ⟨(hT.bal q hq).2.2, fun i hi hne => hT.apart q hq i hi hne⟩, ⟨hT.new.1, hgB, hT.new.2, fun q hq => (hT.bal q hq).2.1⟩⟩
      have hbl := hT.blw
      replace hT := Lib.hid hT
      replace hh := Lib.hid hh
      replace hcs := Lib.hid hcs
      replace hfinal := Lib.hid hfinal
      replace hbl := Lib.hid hbl
      replace hll := Lib.hid hll
      go_wp2_with fail
      go_ret2
      exact ⟨fun _ => ⟨_, rfl, by simpa using hfinal.out⟩, fun e => absurd e (by unfold newOk; simp; omega), hbl.out⟩
end Go.Proofs.YtljclgphgojphaaGreat
