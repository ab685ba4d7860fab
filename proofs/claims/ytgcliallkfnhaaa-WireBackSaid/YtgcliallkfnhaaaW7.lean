/- The contract of the reference's TakeReply. -/
import Derived.Test.YtgcliallkfnhaaaWL5
import Derived.StillTailTactics
import Derived.Laws.AppendOwn
import Derived.Deep.RegionLaw
namespace Go.Proofs.Ytgcliallkfnhaaa
open Go.RowKit
set_option linter.unusedVariables false

/-- a slice of ints of one's own -/
def OwnZ (B : Nat) (w : World) (v : Value) (l : List Int) : Prop := w.ownsRow B 3 1 v l.length (l.map (Value.int .i64))
theorem OwnZ.row {B : Nat} {w : World} {v : Value} {l : List Int} (h : OwnZ B w v l) : ∃ p cap, v = .slice p l.length cap ∧ ZRow w p l.length l := by
  obtain ⟨hlen, h⟩ := h
  rcases h with ⟨rfl, h0⟩ | ⟨g, cap, cur, rfl, hg, hh, hn, hm, hsz, htk⟩
  · exact ⟨none, 0, by rw [h0], rfl, .inl h0⟩
  · refine ⟨_, cap, rfl, rfl, .inr ⟨g, 0, rfl, (Array.getElem?_eq_some_iff.1 hh).1, fun i hi => ?_⟩⟩
    rw [Nat.zero_add, cell_of_row w g i cur 3 (0, 0) hh]
    have e : (l.map (Value.int .i64))[i]? = cur[i]? := by
      rw [← htk, List.getElem?_take, if_pos (by omega), Array.getElem?_toList]
    rw [← e, List.getElem?_map, List.getD_eq_getElem?_getD, List.getElem?_eq_getElem hi]
    rfl
theorem OwnZ.lt {B : Nat} {w : World} {v : Value} {l : List Int} (h : OwnZ B w v l) : ∀ k, v.ownBlock = some k → B ≤ k ∧ k < w.heap.size := World.ownsRow.lt h
theorem OwnZ.alloc {B : Nat} {w : World} {v : Value} {l : List Int} (h : OwnZ B w v l) (o : Obj) : OwnZ B (w.alloc o) v l := World.ownsRow.alloc h o
theorem OwnZ.nil (B : Nat) (w : World) : OwnZ B w (.slice none 0 0) [] := World.ownsRow_nil w B 3 1
theorem OwnZ.block {B : Nat} {w w' : World} {v : Value} {l : List Int} (h : OwnZ B w v l) (hb : ∀ g, v.ownBlock = some g → w'.heap[g]? = w.heap[g]?) : OwnZ B w' v l := by
  obtain ⟨hlen, h⟩ := h
  refine ⟨hlen, h.imp id ?_⟩
  rintro ⟨g, cap, cur, rfl, hg, hh, r⟩
  exact ⟨g, cap, cur, rfl, hg, (hb g rfl).trans hh, r⟩
theorem Try.info3z : (Try.prog.info? 3).map (fun i => (i.zero, i.size, i.bytes)) = some (some (.int .i64 0), 1, 8) := by kernel_rfl
set_option maxRecDepth 100000 in
theorem appZ_run (w : World) (B : Nat) (v : Value) (l : List Int) (hown : OwnZ B w v l) (hB : B ≤ w.heap.size) (a : Addr) (x : Int) (hx : w.cell? (a.add 0) = some (.int .i64 x)) (hn : l.length + 1 ≤ 33554432) :
    ∃ v' w', (Builtin.append_ #[38, 38] 38 #[v, .slice (some a) 1 1]).run Try.prog w = .ok v' w' ∧ OwnZ B w' v' (l ++ [x]) ∧ w.grownBy w' v.ownBlock := by
  obtain ⟨i0, hi, hz0, hz1, hz2⟩ := info_parts Try.info3z
  obtain ⟨v', w', h1, h2, h3, _⟩ := run_append_own (P := Try.prog) w B 38 38 3 i0 (.int .i64 0) 1 8 Try.underlying38 hi hz0 hz1 hz2 rfl (by decide) v l.length (l.map (Value.int .i64)) hown a 1 1 [.int .i64 x] rfl
    (fun j u hu => by
      match j with
      | 0 => injection hu with hu; rw [← hu]; exact hx
      | j + 1 => simp at hu)
    (fun u hu => by obtain rfl := List.mem_singleton.1 hu; rfl) (by unfold maxLen; omega) (by omega) hB
  refine ⟨v', w', h1, ?_, h3⟩
  unfold OwnZ
  rw [List.length_append, List.map_append]
  exact h2
theorem results_takeP (tmps : Array Value) (w : World) (g : Nat) (cs : Array Value) (fr : Nat × Nat) (hp : tmps.getD 2 undef = .pointer (some ⟨g, 0, none⟩)) (hg : w.heap[g]? = some (.cells cs 43 fr)) (hs : (Try.prog.info? 43).map (·.size) = some cs.size) :
    (results Try.f18 tmps).run Try.prog w = .ok (.tuple #[.agg cs, tmps.getD 3 undef]) w := by
  rw [results_cell_tmp rfl, hp]
  simp [asAddr, run_loadVar_row w g 43 43 cs fr _ hg Try.underlying43 rfl hs]
/-- what is told of bytes, and where it lies -/
def TookP (o : Option Rep) (e : Ending) (w' : World) : Prop := match o with
  | none => e = .returned (.tuple #[.agg noRep, .int .i64 2])
  | some r => ∃ p cap, e = .returned (.tuple #[.agg (repArr r p cap), .int .i64 0]) ∧ ZRow w' p r.Ids.length r.Ids
theorem step_appZ {P : Program} {ops : Array Oper} {o : Oper} {a : Act} {w : World} {K : Act → World → Prop} {Q : Exit → Act → World → Prop} {E : Prop}
    (hg : o.guard = none) (s x : Operand) (t t' : TypeId) (hop : o.op = Op.call { callee := Callee.builtin Builtin.append, args := #[s, x], argTypes := #[t, t'] })
    (v y v' : Value) (w' : World) (hs : a.eval s = v) (hx : a.eval x = y) (hr : (Builtin.append_ #[t, t'] o.type #[v, y]).run P w = .ok v' w') (hK : K (a.put o.dst v') w') :
    if Region.wanted o (yielded ops a.tmps) = true then Oper.wp P o a w K Q else E := by
  have hw : Region.wanted o (yielded ops a.tmps) = true := by simp [Region.wanted, hg]
  rw [if_pos hw]
  unfold Oper.wp
  simp [execOp, hop, resolve, invoke, builtin, hs, hx, hr, Result.andThen]
  exact hK
theorem ZRow.setRow {w : World} {p : Option Addr} {len : Nat} {l : List Int} (h : ZRow w p len l) (g : Nat) (cs : Array Value) (hp : ∀ a, p = some a → a.block ≠ g) : ZRow (w.setRow g cs) p len l := by
  obtain ⟨h1, h2⟩ := h
  refine ⟨h1, h2.imp id ?_⟩
  rintro ⟨b, off, rfl, hlt, hc⟩
  exact ⟨b, off, rfl, by simpa using hlt, fun i hi => (World.cell?_of_block (a := ⟨b, off + i, none⟩) (setRow_other w g b cs (hp ⟨b, off, none⟩ rfl))).trans (hc i hi)⟩
/-- what the loop of TakeReply holds -/
structure TSt (v wr : World) (E V : Int) (va : Value) (l : List Int) : Prop where
  obj : wr.heap[v.heap.size]? = some (.cells #[.int .i64 E, .int .i64 V, va] 43 (0, 0))
  own : OwnZ (v.heap.size + 1) wr va l
  blw : Below v.heap.size v wr
theorem takeP_none {s : List UInt8} (h : ¬ (11 ≤ s.length ∧ s.length = 11 + 4 * cntP s ∧ mayP (toldP s) = true)) : takeP s = none := if_neg h
theorem takeP_some {s : List UInt8} (h : 11 ≤ s.length ∧ s.length = 11 + 4 * cntP s ∧ mayP (toldP s) = true) : takeP s = some (toldP s) := if_pos h

set_option maxHeartbeats 4000000 in
set_option maxRecDepth 100000 in
theorem takePR_any (s : ByteArray) (w : World) (hs : s.size ≤ 1000000) : Calls Try.prog 18 #[.string s] w fun e w' =>
    TookP (takeP (bl s)) e w' ∧ Below w.heap.size w w' := by
  have hB0 : Below w.heap.size w (w.alloc (.cells noRep 43)) := (Below.refl _ _).alloc (Nat.le_refl _) _
  have hbx : (w.alloc (.cells noRep 43)).heap[w.heap.size]? = some (.cells noRep 43 (0, 0)) := heap_alloc_new w _
  have hbl := bl_length s
  unfold noRep at hB0 hbx
  generalize hv : w.alloc (.cells #[.int .i64 0, .int .i64 0, .slice none 0 0] 43) = v at *
  generalize hB : w.heap.size = B at *
  have hvs : v.heap.size = B + 1 := by rw [← hv, ← hB]; simp
  replace hv := Lib.hid hv
  replace hB := Lib.hid hB
  replace hB0 := Lib.hid hB0
  replace hbx := Lib.hid hbx
  replace hvs := Lib.hid hvs
  go_enter Try.func18, Try.ntmps18
  go_upto_region 1 with (fail)
  rw [hB.out]
  change Code.wp _ _ _ _ (w.alloc (.cells #[.int .i64 0, .int .i64 0, .slice none 0 0] 43))
  rw [hv.out]
  by_cases h11 : s.size < 11
  · have h11z : (s.size : Int) < 11 := by omega
    have hn : takeP (bl s) = none := takeP_none (fun h => by have := h.1; omega)
    replace hn := Lib.hid hn
    go_wp2_with (first | (refine wpList_store_row rfl 43 _ _ rfl B _ rfl rfl 43 _ hbx.out (by kernel_rfl) rfl (by simp [Value.oneCell']) ?_))
    (try simp only [Exit.inBlock, Exit.then])
    refine bodyPost_ret (results_takeP _ _ _ _ _ rfl (setRow_heap _ _ _ _ _ _ hbx.out) (by kernel_rfl)) rfl ?_
    exact ⟨by rw [hn.out]; rfl, below_setRow hB0.out (Nat.le_refl _) _⟩
  have h11z : ¬ (s.size : Int) < 11 := by omega
  have hpos : 0 < s.size := by omega
  have hposz : (0 : Int) < (s.size : Int) := by omega
  have hhd := head_get s hpos
  have hdig : ∀ (v : World) (a b : Nat), a + b ≤ s.size → b ≤ 8 → Calls Try.prog 28 #[.string s, .int .i64 (a : Int), .int .i64 (b : Int)] v fun e w' => e = .returned (.int .u64 ((vls (((bl s).drop a).take b) : Nat) : Int)) ∧ v = w' := fun v a b h1 h2 => numR_any s a b v h2 h1 hs
  have hd8 : ∀ v : World, Calls Try.prog 28 #[.string s, .int .i64 1, .int .i64 8] v fun e w' => e = .returned (.int .u64 ((vls (((bl s).drop 1).take 8) : Nat) : Int)) ∧ w' = v := fun v => (hdig v 1 8 (by omega) (by omega)).mono fun e w' h => ⟨h.1, h.2.symm⟩
  have hd2 : ∀ v : World, Calls Try.prog 28 #[.string s, .int .i64 9, .int .i64 2] v fun e w' => e = .returned (.int .u64 ((cntP (bl s) : Nat) : Int)) ∧ v = w' := fun v => hdig v 9 2 (by omega) (by omega)
  have hy8 : vls (((bl s).drop 1).take 8) < 18446744073709551616 := by
    have := vls_lt (((bl s).drop 1).take 8)
    rw [List.length_take, List.length_drop, hbl] at this
    have h2 : (256 : Nat) ^ (min 8 (s.size - 1)) ≤ 256 ^ 8 := Nat.pow_le_pow_right (by omega) (by omega)
    have h3 : (256 : Nat) ^ 8 = 18446744073709551616 := by decide
    omega
  have hV := wrap_toI (vls (((bl s).drop 1).take 8)) hy8
  have hc2 : cntP (bl s) < 65536 := by
    have := vls_lt (((bl s).drop 9).take 2)
    rw [List.length_take, List.length_drop, hbl] at this
    have h2 : (256 : Nat) ^ (min 2 (s.size - 9)) ≤ 256 ^ 2 := Nat.pow_le_pow_right (by omega) (by omega)
    have h3 : (256 : Nat) ^ 2 = 65536 := by decide
    unfold cntP
    omega
  have htold : toldP (bl s) = ⟨((s[0].toNat : Nat) : Int), toI (vls (((bl s).drop 1).take 8)), (List.range (cntP (bl s))).map (idAt (bl s))⟩ := by unfold toldP; rw [hhd]
  have hE := s[0].toNat_lt
  generalize hEe : ((s[0].toNat : Nat) : Int) = E at *
  generalize toI (vls (((bl s).drop 1).take 8)) = V at *
  generalize vls (((bl s).drop 1).take 8) = y8 at *
  have hEw : IntKind.i64.wrap E = E := by rw [IntKind.wrap_i64] <;> omega
  replace hdig := Lib.hid hdig
  replace hd8 := Lib.hid hd8
  replace hd2 := Lib.hid hd2
  replace htold := Lib.hid htold
  replace hhd := Lib.hid hhd
  have hxa := heap_alloc_new v.drew (.cells #[.int .i64 0, .int .i64 0, .slice none 0 0] 43)
  replace hxa := Lib.hid hxa
  go_upto_region 3 with (fail)
  have hgv : v.drew.heap.size = v.heap.size := rfl
  have hG : v.heap.size ≠ B := by rw [hvs.out]; omega
  go_cut [4] (fun b wc => b = .pointer (some ⟨v.heap.size, 0, none⟩) ∧ Hid (wc.heap[v.heap.size]? = some (.cells #[.int .i64 E, .int .i64 V, .slice none 0 0] 43 (0, 0)) ∧ Below v.heap.size v wc))
  case first =>
    go_region_with (first | (go_at_call 28; (refine (hd8.out _).mono ?_); rintro e z ⟨rfl, rfl⟩))
    all_goals
      go_wp2_with fail
      go_meet
      case rel =>
        exact ⟨rfl, Lib.hid ⟨heap_alloc_new v _, ((Below.refl _ v).alloc (Nat.le_refl _) _).drew⟩⟩
  case rest =>
    obtain ⟨rfl, hBw⟩ := hcut
    have hBb : B < v.heap.size := by rw [hvs.out]; omega
    have hbxc := (hBw.out.2.block B hBb).trans hbx.out
    have hBB : Below B w wc := hB0.out.trans (hBw.out.2.mono (Nat.le_of_lt hBb))
    replace hbxc := Lib.hid hbxc
    replace hBB := Lib.hid hBB
    have hid4 : ∀ k, 11 + 4 * k + 4 ≤ s.size → ∀ v : World, Calls Try.prog 28 #[.string s, .int .i64 (11 + 4 * (k : Int)), .int .i64 4] v fun e w' => e = .returned (.int .u64 (idAt (bl s) k)) ∧ v = w' := fun k hk v => by
      have h := hdig.out v (11 + 4 * k) 4 hk (by omega)
      have e : ((11 + 4 * k : Nat) : Int) = 11 + 4 * (k : Int) := by omega
      rw [e] at h
      exact h
    generalize hne : cntP (bl s) = n at *
    by_cases hl : s.size = 11 + 4 * n
    · have hlz : (s.size : Int) = 11 + 4 * (n : Int) := by omega
      have hS0 : Hid (TSt v wc E V (.slice none 0 0) []) := Lib.hid ⟨hBw.out.1, OwnZ.nil _ _, hBw.out.2⟩
      have hmayP := mayP_iff (toldP (bl s))
      rw [htold.out] at hmayP
      replace hmayP := Lib.hid hmayP
      replace hne := Lib.hid hne
      go_wp2_with (first | (go_at_call 28; (refine (hd2.out _).mono ?_); rintro e z ⟨rfl, rfl⟩))
      go_loopw [6] (fun i wr => ∃ (k : Nat) (va : Value), k ≤ n ∧ i = .int .i64 k ∧ Hid (TSt v wr E V va ((List.range k).map (idAt (bl s))))) (fun i _ => n - (intOf i).toNat)
      case atStart => exact ⟨0, _, by omega, rfl, hS0⟩
      case round =>
        obtain ⟨k, va, hk, rfl, hT⟩ := hrel
        by_cases hkn : k < n
        · have kz : (k : Int) < (n : Int) := by omega
          have hdk := hid4 k (by omega)
          have hw4 : IntKind.i64.wrap (4 * (k : Int)) = 4 * (k : Int) := by rw [IntKind.wrap_i64] <;> omega
          have hw11 : IntKind.i64.wrap (11 + 4 * (k : Int)) = 11 + 4 * (k : Int) := by rw [IntKind.wrap_i64] <;> omega
          have hT2 := hT.out
          obtain ⟨p3, cap3, rfl, hrow3⟩ := hT2.own.row
          have hll : ((List.range k).map (idAt (bl s))).length = k := by simp
          rw [hll] at hrow3 hT2 hT
          have hidw : IntKind.i64.wrap (idAt (bl s) k) = idAt (bl s) k := by
            have h4 := vls_lt (((bl s).drop (11 + 4 * k)).take 4)
            have h44 : (256 : Nat) ^ (((bl s).drop (11 + 4 * k)).take 4).length ≤ 256 ^ 4 := Nat.pow_le_pow_right (by omega) (by rw [List.length_take]; omega)
            have h5 : (256 : Nat) ^ 4 = 4294967296 := by decide
            unfold idAt
            rw [IntKind.wrap_i64] <;> omega
          have hrs : (List.range (k + 1)).map (idAt (bl s)) = (List.range k).map (idAt (bl s)) ++ [idAt (bl s) k] := by rw [List.range_succ, List.map_append]; rfl
          have hGl := obj_lt hT2.obj
          have hxW : (wr.drew.alloc (.cells #[.int .i64 (idAt (bl s) k)] 3)).cell? ((⟨wr.drew.heap.size, 0, none⟩ : Addr).add 0) = some (.int .i64 (idAt (bl s) k)) := obj_cell (heap_alloc_new wr.drew _) rfl
          have hOW : OwnZ (v.heap.size + 1) (wr.drew.alloc (.cells #[.int .i64 (idAt (bl s) k)] 3)) (.slice p3 k cap3) ((List.range k).map (idAt (bl s))) := OwnZ.alloc (w := wr.drew) hT2.own _
          have hBW : Below v.heap.size v (wr.drew.alloc (.cells #[.int .i64 (idAt (bl s) k)] 3)) := hT2.blw.drew.alloc hT2.blw.size _
          have hjW : (wr.drew.alloc (.cells #[.int .i64 (idAt (bl s) k)] 3)).heap[v.heap.size]? = some (.cells #[.int .i64 E, .int .i64 V, .slice p3 k cap3] 43 (0, 0)) := (Below.heap_alloc _ _ _ hGl).trans hT2.obj
          obtain ⟨v6, w6, hrun6, hO7, hG7⟩ := appZ_run _ _ _ _ hOW (by have := obj_lt hjW; omega) _ _ hxW (by rw [hll]; omega)
          have hj7 := (hG7.block _ (obj_lt hjW) (fun e => by have := (hOW.lt _ e.symm).1; omega)).trans hjW
          have hB7 : Below v.heap.size v w6 := hBW.grown hG7 hBW.size (fun k hk => by have := (hOW.lt _ hk).1; omega)
          have k3 : wr.cell? ⟨v.heap.size, 2, none⟩ = some (.slice p3 k cap3) := obj_cell hT2.obj rfl
          have k3a : ∀ o, (wr.drew.alloc o).cell? ⟨v.heap.size, 2, none⟩ = some (.slice p3 k cap3) := fun o => by rw [World.cell?_alloc_lt _ _ _ (by exact hGl)]; exact k3
          have c6 : w6.cell? ⟨v.heap.size, 2, none⟩ = some (.slice p3 k cap3) := obj_cell hj7 rfl
          have z6 := obj_free hj7 2
          rw [← hrs] at hO7
          have hfin : TSt v (w6.setCell ⟨v.heap.size, 2, none⟩ v6) E V v6 ((List.range (k + 1)).map (idAt (bl s))) := ⟨obj_set hj7 2 _, hO7.block (fun g hg => obj_other _ (by have := (hO7.lt _ hg).1; show g ≠ v.heap.size; omega)), hB7.setCell (Nat.le_refl _) _⟩
          obtain ⟨p6, cap6, rfl, hrow6⟩ := hO7.row
          replace hfin := Lib.hid hfin
          generalize ((List.range (k + 1)).map (idAt (bl s))).length = n6 at *
          replace hrun6 := Lib.hid hrun6
          replace hj7 := Lib.hid hj7
          replace hO7 := Lib.hid hO7
          replace hrow6 := Lib.hid hrow6
          replace hrow3 := Lib.hid hrow3
          replace hOW := Lib.hid hOW
          replace hBW := Lib.hid hBW
          replace hjW := Lib.hid hjW
          replace hB7 := Lib.hid hB7
          replace hG7 := Lib.hid hG7
          replace hxW := Lib.hid hxW
          replace hrs := Lib.hid hrs
          replace hT2 := Lib.hid hT2
          replace hdk := Lib.hid hdk
          generalize idAt (bl s) k = x at *
          go_upto_region 10 with (fail)
          go_region_law (first | (go_simp; go_at_call 28; (with_reducible refine (hdk.out _).mono ?_); rintro e z ⟨rfl, rfl⟩) | (refine step_appZ rfl (.tmp 36) (.tmp 43) 38 38 rfl _ _ _ _ rfl rfl hrun6.out ?_))
          all_goals
            go_wp2_with fail
            go_roundw
            case rel => exact ⟨k + 1, _, by omega, by go_num, hfin⟩
            case measure => simp [intOf]; omega
        · obtain rfl : k = n := by omega
          have kz : ¬ (k : Int) < (k : Int) := by omega
          have hT2 := hT.out
          obtain ⟨p3, cap3, rfl, hrow3⟩ := hT2.own.row
          have hp := putPR_any ⟨E, V, (List.range k).map (idAt (bl s))⟩ p3 cap3 wr hrow3 (by simp; omega)
          have hll : ((List.range k).map (idAt (bl s))).length = k := by simp
          unfold repArr at hp
          simp only [hll] at hp
          rw [hll] at hT2 hrow3
          have q0 : wr.cell? ⟨v.heap.size, 0, none⟩ = some (.int .i64 E) := obj_cell hT2.obj rfl
          have q1 : wr.cell? ⟨v.heap.size, 1, none⟩ = some (.int .i64 V) := obj_cell hT2.obj rfl
          have q2 : wr.cell? ⟨v.heap.size, 2, none⟩ = some (.slice p3 k cap3) := obj_cell hT2.obj rfl
          have hGl := obj_lt hT2.obj
          have hbx3 := (hT2.blw.block B hBb).trans hbx.out
          cases hm : mayP ⟨E, V, (List.range k).map (idAt (bl s))⟩ with
          | false =>
            have hn : takeP (bl s) = none := takeP_none (fun h => by rw [htold.out, hne.out, hm] at h; exact absurd h.2.2 (by decide))
            unfold putPV at hp
            rw [hm] at hp
            simp only [Bool.false_eq_true, if_false] at hp
            replace hn := Lib.hid hn
            replace hm := Lib.hid hm
            replace hp := Lib.hid hp
            replace hT2 := Lib.hid hT2
            replace hrow3 := Lib.hid hrow3
            go_wp2_with fail
            with_reducible refine hp.out.mono ?_
            rintro e z ⟨rfl, hbz⟩
            have hbxz := (hbz.block B (by have := hT2.out.blw.size; omega)).trans hbx3
            have hBz : Below B w z := hB0.out.trans ((hT2.out.blw.mono (Nat.le_of_lt hBb)).trans (hbz.mono (by have := hT2.out.blw.size; omega)))
            replace hBz := Lib.hid hBz
            replace hbxz := Lib.hid hbxz
            replace hbz := Lib.hid hbz
            go_wp2_with (first | (refine wpList_store_row rfl 43 _ _ rfl B _ rfl rfl 43 _ hbxz.out (by kernel_rfl) rfl (by simp [Value.oneCell']) ?_))
            (try simp only [Exit.inBlock, Exit.then])
            refine bodyPost_ret (results_takeP _ _ _ _ _ rfl (setRow_heap _ _ _ _ _ _ hbxz.out) (by kernel_rfl)) rfl ?_
            exact ⟨by rw [hn.out]; rfl, below_setRow hBz.out (Nat.le_refl _) _⟩
          | true =>
            have hn : takeP (bl s) = some ⟨E, V, (List.range k).map (idAt (bl s))⟩ := by rw [takeP_some ⟨by omega, by rw [hne.out]; omega, by rw [htold.out]; exact hm⟩, htold.out]
            unfold putPV at hp
            rw [hm] at hp
            simp only [if_true] at hp
            unfold sv at hp
            generalize (⟨(putP ⟨E, V, (List.range k).map (idAt (bl s))⟩).toArray⟩ : ByteArray) = S at *
            replace hn := Lib.hid hn
            replace hm := Lib.hid hm
            replace hp := Lib.hid hp
            replace hT2 := Lib.hid hT2
            replace hrow3 := Lib.hid hrow3
            go_wp2_with fail
            with_reducible refine hp.out.mono ?_
            rintro e z ⟨rfl, hbz⟩
            have hbxz := (hbz.block B (by have := hT2.out.blw.size; omega)).trans hbx3
            have hjz := (hbz.block _ hGl).trans hT2.out.obj
            have y0 : z.cell? ⟨v.heap.size, 0, none⟩ = some (.int .i64 E) := obj_cell hjz rfl
            have y1 : z.cell? ⟨v.heap.size, 1, none⟩ = some (.int .i64 V) := obj_cell hjz rfl
            have y2 : z.cell? ⟨v.heap.size, 2, none⟩ = some (.slice p3 k cap3) := obj_cell hjz rfl
            have hBz : Below B w z := hB0.out.trans ((hT2.out.blw.mono (Nat.le_of_lt hBb)).trans (hbz.mono (by have := hT2.out.blw.size; omega)))
            replace hBz := Lib.hid hBz
            replace hbxz := Lib.hid hbxz
            replace hjz := Lib.hid hjz
            replace hbz := Lib.hid hbz
            go_wp2_with (first | (refine wpList_store_row rfl 43 _ _ rfl B _ rfl rfl 43 _ hbxz.out (by kernel_rfl) rfl (by simp [Value.oneCell']) ?_))
            (try simp only [Exit.inBlock, Exit.then])
            refine bodyPost_ret (results_takeP _ _ _ _ _ rfl (setRow_heap _ _ _ _ _ _ hbxz.out) (by kernel_rfl)) rfl ?_
            refine ⟨?_, below_setRow hBz.out (Nat.le_refl _) _⟩
            rw [hn.out]
            refine ⟨p3, cap3, by unfold repArr; simp only [hll]; rfl, ?_⟩
            show ZRow _ p3 ((List.range k).map (idAt (bl s))).length ((List.range k).map (idAt (bl s)))
            rw [hll]
            exact (hrow3.out.kept hbz.out).setRow B _ (fun a e => by subst e; have := (hT2.out.own.lt a.block rfl).1; omega)
    · have hlz : ¬ (s.size : Int) = 11 + 4 * (n : Int) := by omega
      have hn : takeP (bl s) = none := takeP_none (fun h => by have := h.2.1; omega)
      replace hn := Lib.hid hn
      replace hne := Lib.hid hne
      go_wp2_with (first | (go_at_call 28; (refine (hd2.out _).mono ?_); rintro e z ⟨rfl, rfl⟩) | (refine wpList_store_row rfl 43 _ _ rfl B _ rfl rfl 43 _ hbxc.out (by kernel_rfl) rfl (by simp [Value.oneCell']) ?_))
      (try simp only [Exit.inBlock, Exit.then])
      refine bodyPost_ret (results_takeP _ _ _ _ _ rfl (setRow_heap _ _ _ _ _ _ hbxc.out) (by kernel_rfl)) rfl ?_
      exact ⟨by rw [hn.out]; rfl, below_setRow hBB.out (Nat.le_refl _) _⟩
/-- the reference's replies keep to what they must -/
theorem theQI : QI := ⟨fun r p cap w hz hn => putPR_any r p cap w hz hn, fun s w hs => (takePR_any s w hs).mono fun e w' h => ⟨by
    have h1 := h.1
    unfold TookP at h1
    exact h1, h.2⟩⟩
end Go.Proofs.Ytgcliallkfnhaaa
