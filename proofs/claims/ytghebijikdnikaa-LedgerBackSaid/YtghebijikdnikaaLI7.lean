/- A batch, and then what takes it off, leave all as it was: the law's walk over any ledger that keeps its contracts. -/
import Derived.Test.YtghebijikdnikaaLI3
import Derived.Test.YtghebijikdnikaaUC
import Derived.Test.YtghebijikdnikaaLG7
namespace Go.Proofs.Ytghebijikdnikaa
open Go.RowKit
set_option linter.unusedVariables false

/-- postings' cells -/
def pcs : List Pst → List Value
  | [] => []
  | q :: r => .int .i64 q.m :: .int .i64 q.c :: .int .i64 q.a :: pcs r
theorem pcs_len : ∀ l : List Pst, (pcs l).length = l.length * 3
  | [] => rfl
  | q :: r => by
    show (pcs r).length + 1 + 1 + 1 = (r.length + 1) * 3
    rw [pcs_len r]; omega
theorem pcs_app : ∀ a b : List Pst, pcs (a ++ b) = pcs a ++ pcs b
  | [], b => rfl
  | q :: r, b => by
    show _ :: _ :: _ :: pcs (r ++ b) = _
    rw [pcs_app r b]
    rfl
theorem pcs_at : ∀ (l : List Pst) (i : Nat) (q : Pst), l[i]? = some q → (pcs l)[i * 3]? = some (.int .i64 q.m) ∧ (pcs l)[i * 3 + 1]? = some (.int .i64 q.c) ∧ (pcs l)[i * 3 + 2]? = some (.int .i64 q.a)
  | [], i, q, h => by simp at h
  | y :: r, 0, q, h => by
    injection h with h
    subst h
    exact ⟨rfl, rfl, rfl⟩
  | y :: r, i + 1, q, h => by
    have := pcs_at r i q h
    rw [show (i + 1) * 3 = i * 3 + 1 + 1 + 1 by omega]
    exact this
theorem Try.info51r : (Try.prog.info? 51).map (fun i => (i.zero, i.size, i.bytes)) = some (some (.agg #[.int .i64 0, .int .i64 0, .int .i64 0]), 3, 24) := by kernel_rfl
/-- a row of postings of the call's own -/
def OwnP (B : Nat) (w : World) (v : Value) (ps : List Pst) : Prop := w.ownsRow B 51 3 v ps.length (pcs ps)
theorem OwnP.block {B : Nat} {w w' : World} {v : Value} {l : List Pst} (h : OwnP B w v l) (hb : ∀ g, v.ownBlock = some g → w'.heap[g]? = w.heap[g]?) : OwnP B w' v l := by
  obtain ⟨hlen, h⟩ := h
  refine ⟨hlen, h.imp id ?_⟩
  rintro ⟨g, cap, cur, rfl, hg, hh, r⟩
  exact ⟨g, cap, cur, rfl, hg, (hb g rfl).trans hh, r⟩
theorem OwnP.lt {B : Nat} {w : World} {v : Value} {l : List Pst} (h : OwnP B w v l) : ∀ k, v.ownBlock = some k → B ≤ k ∧ k < w.heap.size := World.ownsRow.lt h
theorem OwnP.shape {B : Nat} {w : World} {v : Value} {l : List Pst} (h : OwnP B w v l) : ∃ p cap, v = .slice p l.length cap := by
  rcases h.2 with ⟨rfl, h0⟩ | ⟨g, cap, cur, rfl, _⟩
  · exact ⟨none, 0, by rw [h0]⟩
  · exact ⟨_, cap, rfl⟩
theorem OwnP.row {B : Nat} {w : World} {p : Option Addr} {cap : Nat} {l : List Pst} (h : OwnP B w (.slice p l.length cap) l) (hx : ∀ q ∈ l, In64 q.m ∧ In64 q.c ∧ In64 q.a) : PRow w p l.length l := by
  refine ⟨rfl, hx, ?_⟩
  rcases h.2 with ⟨e, h0⟩ | ⟨g, cap', cur, e, hg, hh, hn, hm, hs, ht⟩
  · exact .inl h0
  · injection e with e1 e2 e3
    refine .inr ⟨g, 0, e1, obj_lt hh, fun i q hq => ?_⟩
    have hi := (List.getElem?_eq_some_iff.1 hq).1
    obtain ⟨c0, c1, c2⟩ := pcs_at l i q hq
    have hc : ∀ k, k < l.length * 3 → cur[k]? = (pcs l)[k]? := fun k hk => by rw [← ht, List.getElem?_take, if_pos (by omega), Array.getElem?_toList]
    exact ⟨obj_cell hh (by rw [hc _ (by omega), Nat.zero_add]; exact c0), obj_cell hh (by rw [hc _ (by omega), Nat.zero_add]; exact c1), obj_cell hh (by rw [hc _ (by omega), Nat.zero_add]; exact c2)⟩
theorem appP_run (w : World) (B : Nat) (v : Value) (l : List Pst) (hown : OwnP B w v l) (hB : B ≤ w.heap.size) (g : Nat) (q : Pst) (hx : w.heap[g]? = some (.cells #[.int .i64 q.m, .int .i64 q.c, .int .i64 q.a] 51 (0, 0))) (hn : l.length + 1 ≤ 1000) :
    ∃ v' w', (Builtin.append_ #[32, 32] 32 #[v, .slice (some ⟨g, 0, none⟩) 1 1]).run Try.prog w = .ok v' w' ∧ OwnP B w' v' (l ++ [q]) ∧ w.grownBy w' v.ownBlock := by
  obtain ⟨i0, hi, hz0, hz1, hz2⟩ := info_parts Try.info51r
  obtain ⟨v', w', h2, h3, h4, _⟩ := run_append_own (P := Try.prog) w B 32 32 51 i0 _ 3 24 Try.underlying32 hi hz0 hz1 hz2 rfl (by decide) v l.length (pcs l) hown ⟨g, 0, none⟩ 1 1 [.int .i64 q.m, .int .i64 q.c, .int .i64 q.a] rfl
    (fun j u hu => by
      rw [Go.WideShapes.add_plain, Nat.zero_add]
      refine obj_cell hx ?_
      rw [← Array.getElem?_toList]
      exact hu)
    (fun u hu => by simp at hu; rcases hu with rfl | rfl | rfl <;> rfl) (by unfold maxLen; omega) (by omega) hB
  refine ⟨v', w', h2, ?_, h4⟩
  unfold OwnP
  rw [List.length_append, pcs_app]
  exact h3
/-- what takes off, step by step -/
theorem offP_step {ps : List Pst} {j : Nat} {q : Pst} (hq : ps[j]? = some q) : offP (ps.drop j) = offP (ps.drop (j + 1)) ++ [⟨q.m, q.c, -q.a⟩] := by
  obtain ⟨hk, e⟩ := List.getElem?_eq_some_iff.1 hq
  rw [List.drop_eq_getElem_cons hk, e, offP_cons]
theorem offP_len (ps : List Pst) : (offP ps).length = ps.length := by unfold offP; rw [List.length_reverse, List.length_map]
theorem offP_in {ps : List Pst} (h : ∀ q ∈ ps, In64 q.m ∧ In64 q.c ∧ In64 q.a) (h2 : ∀ q ∈ ps, q.a ≠ -9223372036854775808) : ∀ q ∈ offP ps, In64 q.m ∧ In64 q.c ∧ In64 q.a := fun q hq => by
  unfold offP at hq
  rw [List.mem_reverse] at hq
  obtain ⟨y, hy, rfl⟩ := List.mem_map.1 hq
  obtain ⟨i1, i2, i3⟩ := h y hy
  have := h2 y hy
  refine ⟨i1, i2, ?_⟩
  show In64 (-y.a)
  unfold In64 at *
  omega
/-- the law's way: what is taken off is laid, from the last one on -/
structure FSt (W0 : World) (ps : List Pst) (j : Nat) (v : Value) (wr : World) : Prop where
  own : OwnP W0.heap.size wr v (offP (ps.drop j))
  blw : Below W0.heap.size W0 wr
  min : ∀ q ∈ ps.drop j, q.a ≠ -9223372036854775808

set_option maxHeartbeats 8000000 in
set_option maxRecDepth 100000 in
theorem ledgerBack_any (I : LI) (nm nc : Int) (p : Option Addr) (len cap : Nat) (ops : List LOp) (q : Option Addr) (len2 cap2 : Nat) (ps : List Pst) (x : LOp) (w : World) (ho : OpsRow w p len ops) (hm : PRow w q len2 ps) (hm2 : len2 ≤ 140737488351232) (hxk : x.Ok w) :
    Calls Try.prog 5 #[.int .i64 nm, .int .i64 nc, .slice p len cap, .slice q len2 cap2, .agg x.arr] w fun e w' => e = .returned (.bool true) ∧ Below w.heap.size w w' := by
  have hA := Lib.hid fun w => awakeL_any I w
  have hBu : Below w.heap.size w (w.alloc (.cells x.arr 34)) := (Below.refl _ _).alloc (Nat.le_refl _) _
  have hbx := heap_alloc_new w (.cells x.arr 34)
  have ho0 := ho.kept hBu
  have hm0 := hm.kept hBu
  have hxm : In64 x.a := hxk.a
  unfold LOp.arr at hBu hbx ho0 hm0 ⊢
  generalize hu : w.alloc (.cells #[.int .i64 x.Do, .int .i64 x.m, .int .i64 x.c, .int .i64 x.v, .int .i64 x.a, .int .i64 x.g, .slice x.p x.len x.cap] 34) = u at *
  have hul := obj_lt hbx
  replace hu := Lib.hid hu
  replace hBu := Lib.hid hBu
  replace hbx := Lib.hid hbx
  replace ho := Lib.hid ho
  replace hm := Lib.hid hm
  replace ho0 := Lib.hid ho0
  replace hm0 := Lib.hid hm0
  replace hxk := Lib.hid hxk
  replace hxm := Lib.hid hxm
  go_enter Try.func5, Try.ntmps5
  go_upto_region 1 with (fail)
  change Code.wp _ _ _ _ (w.alloc (.cells #[.int .i64 x.Do, .int .i64 x.m, .int .i64 x.c, .int .i64 x.v, .int .i64 x.a, .int .i64 x.g, .slice x.p x.len x.cap] 34))
  rw [hu.out]
  go_wp2_with fail
  with_reducible refine (hA.out _).mono ?_
  rintro e w1 ⟨rfl, hB1u⟩
  have hB1 : Below w.heap.size w w1 := hBu.out.trans (hB1u.mono hBu.out.size)
  have hbx1 : w1.heap[w.heap.size]? = _ := (hB1u.block _ hul).trans hbx.out
  have hul1 := obj_lt hbx1
  have ho1 := ho0.out.kept hB1u
  have hm1 := hm0.out.kept hB1u
  have cL1 := large_any p len cap ops w1 ho1
  replace hB1 := Lib.hid hB1
  replace hB1u := Lib.hid hB1u
  replace ho1 := Lib.hid ho1
  replace hm1 := Lib.hid hm1
  replace hbx1 := Lib.hid hbx1
  cases hc1 : manyO ops with
  | true =>
    rw [hc1] at cL1
    replace cL1 := Lib.hid cL1
    go_wp2_with fail
    with_reducible refine cL1.out.mono ?_
    rintro e z ⟨rfl, rfl⟩
    go_wp2_with fail
    go_ret
    exact ⟨rfl, hB1.out⟩
  | false =>
  rw [hc1] at cL1
  replace cL1 := Lib.hid cL1
  by_cases h30 : (30 : Int) < (len2 : Int)
  · go_wp2_with fail
    with_reducible refine cL1.out.mono ?_
    rintro e z ⟨rfl, rfl⟩
    go_wp2_with fail
    go_ret
    exact ⟨rfl, hB1.out⟩
  have hl30 : len2 ≤ 30 := by omega
  have h30b : decide ((30 : Int) < (len2 : Int)) = false := decide_eq_false h30
  have cN := Lib.hid (new_st I nm nc w1)
  have hl40 : len ≤ 40 := by have := many_len hc1; have := ho1.out.1; omega
  go_wp2_with fail
  with_reducible refine cL1.out.mono ?_
  rintro e z ⟨rfl, rfl⟩
  go_wp2_with fail
  with_reducible refine cN.out.mono ?_
  rintro e w2 ⟨pv, er, rfl, hy⟩
  obtain ⟨hy, hn⟩ := hy.out
  cases hok : newOk nm nc with
  | false =>
    obtain ⟨rfl, rfl, hB2⟩ := hn hok
    have hB2' := Lib.hid (hB1.out.trans (hB2.mono hB1.out.size))
    clear hy hn
    replace hB2 := Lib.hid hB2
    go_wp2_with fail
    go_ret
    exact ⟨rfl, hB2'.out⟩
  | true =>
    obtain ⟨b, rfl, rfl, hO⟩ := hy hok
    clear hy hn
    have hS0 : OSt I w1 b ((LM.new nm.toNat nc.toNat).dos (ops.take 0)) w2 := hO
    generalize LM.new nm.toNat nc.toNat = l0 at *
    replace hS0 := Lib.hid hS0
    replace hO := Lib.hid hO
    replace hok := Lib.hid hok
    replace hc1 := Lib.hid hc1
    go_wp2_with fail
    go_loopw [37] (fun i wr => ∃ k : Nat, k ≤ len ∧ i = .int .i64 (k : Int) ∧ Hid (OSt I w1 b (l0.dos (ops.take k)) wr)) (fun i _ => len - (intOf i).toNat)
    case atStart => exact ⟨0, by omega, rfl, hS0⟩
    case round =>
      obtain ⟨k, hk, rfl, hS⟩ := hrel
      have hT := hS.out
      by_cases hkn : k < len
      · have kz : (k : Int) < (len : Int) := by omega
        obtain ⟨x', hx⟩ : ∃ x, ops[k]? = some x := ⟨_, List.getElem?_eq_getElem (by have := ho1.out.1; omega)⟩
        have hrow := ho1.out.kept hT.blw
        obtain ⟨rb, off, rfl, x0, x1, x2, x3, x4, x5, x6⟩ := hrow.at hx
        have hxok := (hrow.2.2.1 x' (List.mem_of_getElem? hx)).1
        have hxl : x'.len ≤ 30 := many_one hc1.out (List.mem_of_getElem? hx)
        have hnw := heap_alloc_new wr (.cells #[.int .i64 0, .int .i64 0, .int .i64 0, .int .i64 0, .int .i64 0, .int .i64 0, .slice none 0 0] 34)
        have hobj := setRow_heap _ _ _ x'.arr _ _ hnw
        have hWB : Below wr.heap.size wr ((wr.alloc (.cells #[.int .i64 0, .int .i64 0, .int .i64 0, .int .i64 0, .int .i64 0, .int .i64 0, .slice none 0 0] 34)).setRow wr.heap.size x'.arr) := below_setRow ((Below.refl _ _).alloc (Nat.le_refl _) _) (Nat.le_refl _) _
        have cD := do_st I (hT.below hWB) (hxok.kept hWB) hxl
        have hds := dos_succ l0 ops k x' hx
        rw [← hds] at cD
        unfold LOp.arr at *
        obtain ⟨y0, y1, y2, y3, y4, y5, y6⟩ : OpAt _ wr.heap.size 0 x' := ⟨obj_cell hobj rfl, obj_cell hobj rfl, obj_cell hobj rfl, obj_cell hobj rfl, obj_cell hobj rfl, obj_cell hobj rfl, obj_cell hobj rfl⟩
        replace hnw := Lib.hid hnw
        replace hobj := Lib.hid hobj
        replace hWB := Lib.hid hWB
        replace cD := Lib.hid cD
        replace hds := Lib.hid hds
        replace hT := Lib.hid hT
        replace hrow := Lib.hid hrow
        replace hxok := Lib.hid hxok
        go_wp2_with (first | (refine wpList_store_row rfl 34 _ _ rfl wr.heap.size _ rfl rfl 34 _ hnw.out (by kernel_rfl) rfl (by simp [Value.oneCell']) ?_))
        with_reducible refine cD.out.mono ?_
        rintro e w5 ⟨rfl, hS5⟩
        replace hS5 := Lib.hid hS5
        go_wp2_with fail
        go_roundw
        case rel => exact ⟨k + 1, by omega, by go_num, hS5⟩
        case measure => simp [intOf]; omega
      · obtain rfl : k = len := by omega
        have kz : ¬ (k : Int) < (k : Int) := by omega
        generalize l0.dos (ops.take k) = l at *
        have cT : ∀ W, OSt I w1 b l W → Calls Try.prog 16 #[.pointer (some ⟨b, 0, none⟩)] W fun e w' => e = .returned (.string ⟨l.text.toArray⟩) ∧ OSt I w1 b l w' := fun W h => by
          refine (I.text h.led h.good).mono ?_
          rintro e w' ⟨rfl, hB⟩
          exact ⟨rfl, h.below hB⟩
        have hlg := hT.good
        generalize (⟨l.text.toArray⟩ : ByteArray) = T at *
        have hsame : (l.post ps).1 ≠ 0 → (l.post ps).2 = l := (post_good hlg ps).2.2
        have hgp := (post_good hlg ps).1
        replace cT := Lib.hid cT
        replace hT := Lib.hid hT
        replace hlg := Lib.hid hlg
        go_wp2_with fail
        with_reducible refine (cT.out _ hS.out).mono ?_
        rintro e w5 ⟨rfl, hS5⟩
        have cP : Calls Try.prog 23 #[.pointer (some ⟨b, 0, none⟩), .slice q len2 cap2] w5 fun e w' => e = .returned (.int .i64 (l.post ps).1) ∧ OSt I w1 b (l.post ps).2 w' := by
          refine (I.post _ b l q len2 cap2 ps w5 hS5.led hS5.good (hm1.out.kept hS5.blw) hl30 (fun i hi => by have := hS5.blw.size; omega)).mono ?_
          rintro e w' ⟨rfl, hL, hK⟩
          exact ⟨rfl, hS5.call hL hK hgp⟩
        replace cP := Lib.hid cP
        replace hS5 := Lib.hid hS5
        replace hgp := Lib.hid hgp
        replace hsame := Lib.hid hsame
        by_cases hp0 : (l.post ps).1 = 0
        · have hback := post_back hlg.out hp0
          rw [hp0] at cP
          generalize hln : (l.post ps).2 = ln at *
          replace hp0 := Lib.hid hp0
          replace hln := Lib.hid hln
          replace hback := Lib.hid hback
          go_wp2_with fail
          with_reducible refine cP.out.mono ?_
          rintro e W0 ⟨rfl, hS6⟩
          have hm6 := hm1.out.kept hS6.blw
          have hps : ps.length = len2 := hm6.1
          have hF0 : FSt W0 ps len2 (.slice none 0 0) W0 := ⟨by rw [List.drop_of_length_le (by omega)]; exact World.ownsRow_nil _ _ _ _, Below.refl _ _, by rw [List.drop_of_length_le (by omega)]; simp⟩
          replace hF0 := Lib.hid hF0
          replace hS6 := Lib.hid hS6
          replace hm6 := Lib.hid hm6
          have hlz : IntKind.i64.wrap ((len2 : Int) - 1) = (len2 : Int) - 1 := by rw [IntKind.wrap_i64] <;> omega
          go_wp2_with fail
          go_loopw [16, 17] (fun v i wr => ∃ j : Nat, j ≤ len2 ∧ i = .int .i64 ((j : Int) - 1) ∧ Hid (FSt W0 ps j v wr)) (fun _ i _ => (intOf i + 1).toNat)
          case atStart => exact ⟨len2, by omega, rfl, hF0⟩
          case round =>
            obtain ⟨j, hj, rfl, hF⟩ := hrel
            by_cases hj0 : 0 < j
            · obtain ⟨d, rfl⟩ : ∃ d, j = d + 1 := ⟨j - 1, by omega⟩
              have e8 : (((d + 1 : Nat) : Int) - 1) = (d : Int) := by omega
              rw [e8]
              have dz : (0 : Int) ≤ (d : Int) := by omega
              have dz2 : (d : Int) < (len2 : Int) := by omega
              obtain ⟨_, hin, hrw⟩ := hm6.out
              obtain ⟨rb, off, rfl, hbs, hcells⟩ := hrw.resolve_left (by omega)
              obtain ⟨y, hy⟩ : ∃ y, ps[d]? = some y := ⟨ps[d], List.getElem?_eq_getElem (by omega)⟩
              obtain ⟨q0, q1, q2⟩ := hcells d y hy
              have hyi := hin y (List.mem_of_getElem? hy)
              have c2 := (hF.out.blw.cell (p := ⟨rb, off + d * 3 + 2, none⟩) hbs).trans q2
              replace hcells := Lib.hid hcells
              replace hin := Lib.hid hin
              replace hrw := Lib.hid hrw
              replace hyi := Lib.hid hyi
              have hstep := offP_step hy
              replace hstep := Lib.hid hstep
              have hdr : ps.drop d = y :: ps.drop (d + 1) := by
                obtain ⟨hk, e⟩ := List.getElem?_eq_some_iff.1 hy
                rw [List.drop_eq_getElem_cons hk, e]
              replace hdr := Lib.hid hdr
              go_upto_block 3 with fail
              go_cut [16] from 54 to 83 (fun v16 wc => Hid (FSt W0 ps d v16 wc))
              case first =>
                by_cases hmin : y.a = -9223372036854775808
                · have hfin : Below w.heap.size w wr := hB1.out.trans ((hS6.out.blw.trans (hF.out.blw.mono hS6.out.blw.size)).mono hB1.out.size)
                  rw [hmin] at c2
                  replace hfin := Lib.hid hfin
                  replace q0 := Lib.hid q0
                  replace q1 := Lib.hid q1
                  replace q2 := Lib.hid q2
                  replace hmin := Lib.hid hmin
                  go_wp2_with fail
                  go_ret
                  exact ⟨rfl, hfin.out⟩
                · have hmb : (y.a == -9223372036854775808) = false := by rw [beq_eq_false_iff_ne]; exact hmin
                  have hwn : IntKind.i64.wrap (-y.a) = -y.a := by have h := hyi.out.2.2; unfold In64 at h; rw [IntKind.wrap_i64] <;> omega
                  have hminn : Hid (∀ q ∈ ps.drop d, q.a ≠ -9223372036854775808) := Lib.hid fun q hq => by
                    rw [hdr.out] at hq
                    rcases List.mem_cons.1 hq with rfl | h
                    · exact hmin
                    · exact hF.out.min q h
                  replace hmin := Lib.hid hmin
                  go_upto_region 21 with (fail)
                  rename_i J1 K1 hJ1 hK1
                  have hq0' := q0; have hq1' := q1; have hq2' := q2
                  refine wp_region_keeps (by kernel_rfl) (fun L az wz => ∃ v16 v64 v65 v66 v67 v68 v69 v70 v71 v72 v73 v74 v75 v76 v77 v78 v79 v80 v81 v82 v83 : Value, az = ({ tmps := (.int .i64 nm :: .int .i64 nc :: Value.slice p k cap :: Value.slice (some ⟨rb, off, none⟩) len2 cap2 :: .agg #[.int .i64 x.Do, .int .i64 x.m, .int .i64 x.c, .int .i64 x.v, .int .i64 x.a, .int .i64 x.g, .slice x.p x.len x.cap] :: undef :: undef :: undef :: undef :: .pointer (some ⟨w.heap.size, 0, none⟩) :: u10 :: .pointer (some ⟨b, 0, none⟩) :: .int .i64 0 :: undef :: u14 :: .string T :: v16 :: .int .i64 (d : Int) :: .bool true :: .bool false :: Value.slice p k cap :: .bool false :: .bool false :: Value.slice (some ⟨rb, off, none⟩) len2 cap2 :: .int .i64 (len2 : Int) :: .bool false :: .bool false :: .tuple #[.pointer (some ⟨b, 0, none⟩), .int .i64 0] :: .int .i64 nm :: .int .i64 nc :: .tuple #[.pointer (some ⟨b, 0, none⟩), .int .i64 0] :: .pointer (some ⟨b, 0, none⟩) :: .int .i64 0 :: .pointer (some ⟨b, 0, none⟩) :: .bool false :: Value.slice p k cap :: .int .i64 (k : Int) :: .int .i64 (k : Int) :: .bool false :: u39 :: u40 :: u41 :: u42 :: u43 :: u44 :: .pointer (some ⟨b, 0, none⟩) :: .string T :: .pointer (some ⟨b, 0, none⟩) :: Value.slice (some ⟨rb, off, none⟩) len2 cap2 :: .int .i64 0 :: .bool true :: Value.slice (some ⟨rb, off, none⟩) len2 cap2 :: .int .i64 (len2 : Int) :: .int .i64 ((len2 : Int) - 1) :: .int .i64 (d : Int) :: .bool true :: u56 :: u57 :: Value.slice (some ⟨rb, off, none⟩) len2 cap2 :: .int .i64 (d : Int) :: .pointer (some ⟨rb, off + d * 3, none⟩) :: .pointer (some ⟨rb, off + d * 3 + 2, none⟩) :: .int .i64 y.a :: .bool false :: v64 :: v65 :: v66 :: v67 :: v68 :: v69 :: v70 :: v71 :: v72 :: v73 :: v74 :: v75 :: v76 :: v77 :: v78 :: v79 :: v80 :: v81 :: v82 :: v83 :: undef :: undef :: undef :: undef :: undef :: undef :: undef :: undef :: undef :: undef :: undef :: undef :: undef :: undef :: undef :: undef :: undef :: undef :: undef :: undef :: undef :: undef :: undef :: undef :: undef :: undef :: undef :: undef :: undef :: undef :: undef :: undef :: undef :: undef :: undef :: undef :: undef :: undef :: undef :: undef :: undef :: undef :: undef :: undef :: undef :: undef :: undef :: []).toArray, defers := [] } : Act) ∧ Below W0.heap.size W0 wz ∧ (L 0 = true → v64 = u16) ∧ (L 1 = true → v65 = Value.slice (some ⟨rb, off, none⟩) len2 cap2) ∧ (L 2 = true → v66 = .int .i64 (d : Int)) ∧ (L 3 = true → v67 = .pointer (some ⟨rb, off + d * 3, none⟩)) ∧ (L 4 = true → v68 = .pointer (some ⟨rb, off + d * 3, none⟩)) ∧ (L 5 = true → v69 = .int .i64 y.m) ∧ (L 6 = true → v70 = Value.slice (some ⟨rb, off, none⟩) len2 cap2) ∧ (L 7 = true → v71 = .int .i64 (d : Int)) ∧ (L 8 = true → v72 = .pointer (some ⟨rb, off + d * 3, none⟩)) ∧ (L 9 = true → v73 = .pointer (some ⟨rb, off + d * 3 + 1, none⟩)) ∧ (L 10 = true → v74 = .int .i64 y.c) ∧ (L 11 = true → v75 = Value.slice (some ⟨rb, off, none⟩) len2 cap2) ∧ (L 12 = true → v76 = .int .i64 (d : Int)) ∧ (L 13 = true → v77 = .pointer (some ⟨rb, off + d * 3, none⟩)) ∧ (L 14 = true → v78 = .pointer (some ⟨rb, off + d * 3 + 2, none⟩)) ∧ (L 15 = true → v79 = .int .i64 y.a) ∧ (L 16 = true → v80 = .int .i64 (-y.a)) ∧ (L 17 = true → v81 = .agg #[.int .i64 y.m, .int .i64 y.c, .int .i64 (-y.a)]) ∧ (L 18 = true → L 19 = false → ∃ g : Nat, v82 = .slice (some ⟨g, 0, none⟩) 1 1 ∧ wz.heap[g]? = some (.cells #[.int .i64 y.m, .int .i64 y.c, .int .i64 (-y.a)] 51 (0, 0))) ∧ (L 19 = false → OwnP W0.heap.size wz u16 (offP (ps.drop (d + 1)))) ∧ (L 19 = true → OwnP W0.heap.size wz v83 (offP (ps.drop (d + 1)) ++ [⟨y.m, y.c, -y.a⟩])) ∧ (L 20 = true → v16 = v83) ∧ (L 19 = true → L 18 = true ∧ L 0 = true) ∧ (L 20 = false → v16 = u16) ∧ (L 20 = true → L 19 = true)) (by kernel_rfl) ?_ ?_ ?_
                  · exact ⟨_, _, _, _, _, _, _, _, _, _, _, _, _, _, _, _, _, _, _, _, _, rfl, hF.out.blw.drew, nofun, nofun, nofun, nofun, nofun, nofun, nofun, nofun, nofun, nofun, nofun, nofun, nofun, nofun, nofun, nofun, nofun, nofun, nofun, fun _ => hF.out.own, nofun, nofun, nofun, fun _ => rfl, nofun⟩
                  · intro L az wz i hi hni hI hdep
                    obtain ⟨v16, v64, v65, v66, v67, v68, v69, v70, v71, v72, v73, v74, v75, v76, v77, v78, v79, v80, v81, v82, v83, rfl, hB, h0, h1, h2, h3, h4, h5, h6, h7, h8, h9, h10, h11, h12, h13, h14, h15, h16, h17, hsl, hol, hnw, h20, h1918, h20f, h2019⟩ := hI
                    have hcase : i = 0 ∨ i = 1 ∨ i = 2 ∨ i = 3 ∨ i = 4 ∨ i = 5 ∨ i = 6 ∨ i = 7 ∨ i = 8 ∨ i = 9 ∨ i = 10 ∨ i = 11 ∨ i = 12 ∨ i = 13 ∨ i = 14 ∨ i = 15 ∨ i = 16 ∨ i = 17 ∨ i = 18 ∨ i = 19 ∨ i = 20 := by
                      have hi2 : i < 21 := hi
                      omega
                    rcases hcase with rfl | rfl | rfl | rfl | rfl | rfl | rfl | rfl | rfl | rfl | rfl | rfl | rfl | rfl | rfl | rfl | rfl | rfl | rfl | rfl | rfl
                    · -- 0
                      have h20n : L 20 = false := by
                        cases h : L 20 with
                        | false => rfl
                        | true => have := (h1918 (h2019 h)).2; rw [hni] at this; cases this
                      obtain rfl : u16 = v16 := (h20f h20n).symm
                      refine wpOp_step rfl fun K hK => ?_
                      go_simp
                      exact hK _ _ ⟨_, _, _, _, _, _, _, _, _, _, _, _, _, _, _, _, _, _, _, _, _, rfl, hB, fun _ => rfl, fun e => h1 (add_ne e (by decide)), fun e => h2 (add_ne e (by decide)), fun e => h3 (add_ne e (by decide)), fun e => h4 (add_ne e (by decide)), fun e => h5 (add_ne e (by decide)), fun e => h6 (add_ne e (by decide)), fun e => h7 (add_ne e (by decide)), fun e => h8 (add_ne e (by decide)), fun e => h9 (add_ne e (by decide)), fun e => h10 (add_ne e (by decide)), fun e => h11 (add_ne e (by decide)), fun e => h12 (add_ne e (by decide)), fun e => h13 (add_ne e (by decide)), fun e => h14 (add_ne e (by decide)), fun e => h15 (add_ne e (by decide)), fun e => h16 (add_ne e (by decide)), fun e => h17 (add_ne e (by decide)), fun e f => hsl (add_ne e (by decide)) (by cases h : L 19 with | false => rfl | true => rw [add_old h] at f; cases f), fun e => hol (by cases h : L 19 with | false => rfl | true => rw [add_old h] at e; cases e), fun e => hnw (add_ne e (by decide)), fun e => h20 (add_ne e (by decide)), fun e => let ⟨a, b⟩ := h1918 (add_ne e (by decide)); ⟨add_old a, add_old b⟩, fun e => h20f (by cases h : L 20 with | false => rfl | true => rw [add_old h] at e; cases e), fun e => add_old (h2019 (add_ne e (by decide)))⟩
                    · -- 1
                      refine wpOp_step rfl fun K hK => ?_
                      go_simp
                      exact hK _ _ ⟨_, _, _, _, _, _, _, _, _, _, _, _, _, _, _, _, _, _, _, _, _, rfl, hB, fun e => h0 (add_ne e (by decide)), fun _ => rfl, fun e => h2 (add_ne e (by decide)), fun e => h3 (add_ne e (by decide)), fun e => h4 (add_ne e (by decide)), fun e => h5 (add_ne e (by decide)), fun e => h6 (add_ne e (by decide)), fun e => h7 (add_ne e (by decide)), fun e => h8 (add_ne e (by decide)), fun e => h9 (add_ne e (by decide)), fun e => h10 (add_ne e (by decide)), fun e => h11 (add_ne e (by decide)), fun e => h12 (add_ne e (by decide)), fun e => h13 (add_ne e (by decide)), fun e => h14 (add_ne e (by decide)), fun e => h15 (add_ne e (by decide)), fun e => h16 (add_ne e (by decide)), fun e => h17 (add_ne e (by decide)), fun e f => hsl (add_ne e (by decide)) (by cases h : L 19 with | false => rfl | true => rw [add_old h] at f; cases f), fun e => hol (by cases h : L 19 with | false => rfl | true => rw [add_old h] at e; cases e), fun e => hnw (add_ne e (by decide)), fun e => h20 (add_ne e (by decide)), fun e => let ⟨a, b⟩ := h1918 (add_ne e (by decide)); ⟨add_old a, add_old b⟩, fun e => h20f (by cases h : L 20 with | false => rfl | true => rw [add_old h] at e; cases e), fun e => add_old (h2019 (add_ne e (by decide)))⟩
                    · -- 2
                      refine wpOp_step rfl fun K hK => ?_
                      go_simp
                      exact hK _ _ ⟨_, _, _, _, _, _, _, _, _, _, _, _, _, _, _, _, _, _, _, _, _, rfl, hB, fun e => h0 (add_ne e (by decide)), fun e => h1 (add_ne e (by decide)), fun _ => rfl, fun e => h3 (add_ne e (by decide)), fun e => h4 (add_ne e (by decide)), fun e => h5 (add_ne e (by decide)), fun e => h6 (add_ne e (by decide)), fun e => h7 (add_ne e (by decide)), fun e => h8 (add_ne e (by decide)), fun e => h9 (add_ne e (by decide)), fun e => h10 (add_ne e (by decide)), fun e => h11 (add_ne e (by decide)), fun e => h12 (add_ne e (by decide)), fun e => h13 (add_ne e (by decide)), fun e => h14 (add_ne e (by decide)), fun e => h15 (add_ne e (by decide)), fun e => h16 (add_ne e (by decide)), fun e => h17 (add_ne e (by decide)), fun e f => hsl (add_ne e (by decide)) (by cases h : L 19 with | false => rfl | true => rw [add_old h] at f; cases f), fun e => hol (by cases h : L 19 with | false => rfl | true => rw [add_old h] at e; cases e), fun e => hnw (add_ne e (by decide)), fun e => h20 (add_ne e (by decide)), fun e => let ⟨a, b⟩ := h1918 (add_ne e (by decide)); ⟨add_old a, add_old b⟩, fun e => h20f (by cases h : L 20 with | false => rfl | true => rw [add_old h] at e; cases e), fun e => add_old (h2019 (add_ne e (by decide)))⟩
                    · -- 3
                      have e1 := h1 (hdep 1 (by decide +kernel))
                      subst e1
                      have e2 := h2 (hdep 2 (by decide +kernel))
                      subst e2
                      refine wpOp_step rfl fun K hK => ?_
                      go_simp
                      exact hK _ _ ⟨_, _, _, _, _, _, _, _, _, _, _, _, _, _, _, _, _, _, _, _, _, rfl, hB, fun e => h0 (add_ne e (by decide)), fun e => h1 (add_ne e (by decide)), fun e => h2 (add_ne e (by decide)), fun _ => rfl, fun e => h4 (add_ne e (by decide)), fun e => h5 (add_ne e (by decide)), fun e => h6 (add_ne e (by decide)), fun e => h7 (add_ne e (by decide)), fun e => h8 (add_ne e (by decide)), fun e => h9 (add_ne e (by decide)), fun e => h10 (add_ne e (by decide)), fun e => h11 (add_ne e (by decide)), fun e => h12 (add_ne e (by decide)), fun e => h13 (add_ne e (by decide)), fun e => h14 (add_ne e (by decide)), fun e => h15 (add_ne e (by decide)), fun e => h16 (add_ne e (by decide)), fun e => h17 (add_ne e (by decide)), fun e f => hsl (add_ne e (by decide)) (by cases h : L 19 with | false => rfl | true => rw [add_old h] at f; cases f), fun e => hol (by cases h : L 19 with | false => rfl | true => rw [add_old h] at e; cases e), fun e => hnw (add_ne e (by decide)), fun e => h20 (add_ne e (by decide)), fun e => let ⟨a, b⟩ := h1918 (add_ne e (by decide)); ⟨add_old a, add_old b⟩, fun e => h20f (by cases h : L 20 with | false => rfl | true => rw [add_old h] at e; cases e), fun e => add_old (h2019 (add_ne e (by decide)))⟩
                    · -- 4
                      have e3 := h3 (hdep 3 (by decide +kernel))
                      subst e3
                      refine wpOp_step rfl fun K hK => ?_
                      go_simp
                      exact hK _ _ ⟨_, _, _, _, _, _, _, _, _, _, _, _, _, _, _, _, _, _, _, _, _, rfl, hB, fun e => h0 (add_ne e (by decide)), fun e => h1 (add_ne e (by decide)), fun e => h2 (add_ne e (by decide)), fun e => h3 (add_ne e (by decide)), fun _ => rfl, fun e => h5 (add_ne e (by decide)), fun e => h6 (add_ne e (by decide)), fun e => h7 (add_ne e (by decide)), fun e => h8 (add_ne e (by decide)), fun e => h9 (add_ne e (by decide)), fun e => h10 (add_ne e (by decide)), fun e => h11 (add_ne e (by decide)), fun e => h12 (add_ne e (by decide)), fun e => h13 (add_ne e (by decide)), fun e => h14 (add_ne e (by decide)), fun e => h15 (add_ne e (by decide)), fun e => h16 (add_ne e (by decide)), fun e => h17 (add_ne e (by decide)), fun e f => hsl (add_ne e (by decide)) (by cases h : L 19 with | false => rfl | true => rw [add_old h] at f; cases f), fun e => hol (by cases h : L 19 with | false => rfl | true => rw [add_old h] at e; cases e), fun e => hnw (add_ne e (by decide)), fun e => h20 (add_ne e (by decide)), fun e => let ⟨a, b⟩ := h1918 (add_ne e (by decide)); ⟨add_old a, add_old b⟩, fun e => h20f (by cases h : L 20 with | false => rfl | true => rw [add_old h] at e; cases e), fun e => add_old (h2019 (add_ne e (by decide)))⟩
                    · -- 5
                      have e4 := h4 (hdep 4 (by decide +kernel))
                      subst e4
                      have z := (hB.cell (p := ⟨rb, off + d * 3, none⟩) hbs).trans hq0'
                      refine wpOp_step rfl fun K hK => ?_
                      go_simp
                      exact hK _ _ ⟨_, _, _, _, _, _, _, _, _, _, _, _, _, _, _, _, _, _, _, _, _, rfl, hB, fun e => h0 (add_ne e (by decide)), fun e => h1 (add_ne e (by decide)), fun e => h2 (add_ne e (by decide)), fun e => h3 (add_ne e (by decide)), fun e => h4 (add_ne e (by decide)), fun _ => rfl, fun e => h6 (add_ne e (by decide)), fun e => h7 (add_ne e (by decide)), fun e => h8 (add_ne e (by decide)), fun e => h9 (add_ne e (by decide)), fun e => h10 (add_ne e (by decide)), fun e => h11 (add_ne e (by decide)), fun e => h12 (add_ne e (by decide)), fun e => h13 (add_ne e (by decide)), fun e => h14 (add_ne e (by decide)), fun e => h15 (add_ne e (by decide)), fun e => h16 (add_ne e (by decide)), fun e => h17 (add_ne e (by decide)), fun e f => hsl (add_ne e (by decide)) (by cases h : L 19 with | false => rfl | true => rw [add_old h] at f; cases f), fun e => hol (by cases h : L 19 with | false => rfl | true => rw [add_old h] at e; cases e), fun e => hnw (add_ne e (by decide)), fun e => h20 (add_ne e (by decide)), fun e => let ⟨a, b⟩ := h1918 (add_ne e (by decide)); ⟨add_old a, add_old b⟩, fun e => h20f (by cases h : L 20 with | false => rfl | true => rw [add_old h] at e; cases e), fun e => add_old (h2019 (add_ne e (by decide)))⟩
                    · -- 6
                      refine wpOp_step rfl fun K hK => ?_
                      go_simp
                      exact hK _ _ ⟨_, _, _, _, _, _, _, _, _, _, _, _, _, _, _, _, _, _, _, _, _, rfl, hB, fun e => h0 (add_ne e (by decide)), fun e => h1 (add_ne e (by decide)), fun e => h2 (add_ne e (by decide)), fun e => h3 (add_ne e (by decide)), fun e => h4 (add_ne e (by decide)), fun e => h5 (add_ne e (by decide)), fun _ => rfl, fun e => h7 (add_ne e (by decide)), fun e => h8 (add_ne e (by decide)), fun e => h9 (add_ne e (by decide)), fun e => h10 (add_ne e (by decide)), fun e => h11 (add_ne e (by decide)), fun e => h12 (add_ne e (by decide)), fun e => h13 (add_ne e (by decide)), fun e => h14 (add_ne e (by decide)), fun e => h15 (add_ne e (by decide)), fun e => h16 (add_ne e (by decide)), fun e => h17 (add_ne e (by decide)), fun e f => hsl (add_ne e (by decide)) (by cases h : L 19 with | false => rfl | true => rw [add_old h] at f; cases f), fun e => hol (by cases h : L 19 with | false => rfl | true => rw [add_old h] at e; cases e), fun e => hnw (add_ne e (by decide)), fun e => h20 (add_ne e (by decide)), fun e => let ⟨a, b⟩ := h1918 (add_ne e (by decide)); ⟨add_old a, add_old b⟩, fun e => h20f (by cases h : L 20 with | false => rfl | true => rw [add_old h] at e; cases e), fun e => add_old (h2019 (add_ne e (by decide)))⟩
                    · -- 7
                      refine wpOp_step rfl fun K hK => ?_
                      go_simp
                      exact hK _ _ ⟨_, _, _, _, _, _, _, _, _, _, _, _, _, _, _, _, _, _, _, _, _, rfl, hB, fun e => h0 (add_ne e (by decide)), fun e => h1 (add_ne e (by decide)), fun e => h2 (add_ne e (by decide)), fun e => h3 (add_ne e (by decide)), fun e => h4 (add_ne e (by decide)), fun e => h5 (add_ne e (by decide)), fun e => h6 (add_ne e (by decide)), fun _ => rfl, fun e => h8 (add_ne e (by decide)), fun e => h9 (add_ne e (by decide)), fun e => h10 (add_ne e (by decide)), fun e => h11 (add_ne e (by decide)), fun e => h12 (add_ne e (by decide)), fun e => h13 (add_ne e (by decide)), fun e => h14 (add_ne e (by decide)), fun e => h15 (add_ne e (by decide)), fun e => h16 (add_ne e (by decide)), fun e => h17 (add_ne e (by decide)), fun e f => hsl (add_ne e (by decide)) (by cases h : L 19 with | false => rfl | true => rw [add_old h] at f; cases f), fun e => hol (by cases h : L 19 with | false => rfl | true => rw [add_old h] at e; cases e), fun e => hnw (add_ne e (by decide)), fun e => h20 (add_ne e (by decide)), fun e => let ⟨a, b⟩ := h1918 (add_ne e (by decide)); ⟨add_old a, add_old b⟩, fun e => h20f (by cases h : L 20 with | false => rfl | true => rw [add_old h] at e; cases e), fun e => add_old (h2019 (add_ne e (by decide)))⟩
                    · -- 8
                      have e6 := h6 (hdep 6 (by decide +kernel))
                      subst e6
                      have e7 := h7 (hdep 7 (by decide +kernel))
                      subst e7
                      refine wpOp_step rfl fun K hK => ?_
                      go_simp
                      exact hK _ _ ⟨_, _, _, _, _, _, _, _, _, _, _, _, _, _, _, _, _, _, _, _, _, rfl, hB, fun e => h0 (add_ne e (by decide)), fun e => h1 (add_ne e (by decide)), fun e => h2 (add_ne e (by decide)), fun e => h3 (add_ne e (by decide)), fun e => h4 (add_ne e (by decide)), fun e => h5 (add_ne e (by decide)), fun e => h6 (add_ne e (by decide)), fun e => h7 (add_ne e (by decide)), fun _ => rfl, fun e => h9 (add_ne e (by decide)), fun e => h10 (add_ne e (by decide)), fun e => h11 (add_ne e (by decide)), fun e => h12 (add_ne e (by decide)), fun e => h13 (add_ne e (by decide)), fun e => h14 (add_ne e (by decide)), fun e => h15 (add_ne e (by decide)), fun e => h16 (add_ne e (by decide)), fun e => h17 (add_ne e (by decide)), fun e f => hsl (add_ne e (by decide)) (by cases h : L 19 with | false => rfl | true => rw [add_old h] at f; cases f), fun e => hol (by cases h : L 19 with | false => rfl | true => rw [add_old h] at e; cases e), fun e => hnw (add_ne e (by decide)), fun e => h20 (add_ne e (by decide)), fun e => let ⟨a, b⟩ := h1918 (add_ne e (by decide)); ⟨add_old a, add_old b⟩, fun e => h20f (by cases h : L 20 with | false => rfl | true => rw [add_old h] at e; cases e), fun e => add_old (h2019 (add_ne e (by decide)))⟩
                    · -- 9
                      have e8 := h8 (hdep 8 (by decide +kernel))
                      subst e8
                      refine wpOp_step rfl fun K hK => ?_
                      go_simp
                      exact hK _ _ ⟨_, _, _, _, _, _, _, _, _, _, _, _, _, _, _, _, _, _, _, _, _, rfl, hB, fun e => h0 (add_ne e (by decide)), fun e => h1 (add_ne e (by decide)), fun e => h2 (add_ne e (by decide)), fun e => h3 (add_ne e (by decide)), fun e => h4 (add_ne e (by decide)), fun e => h5 (add_ne e (by decide)), fun e => h6 (add_ne e (by decide)), fun e => h7 (add_ne e (by decide)), fun e => h8 (add_ne e (by decide)), fun _ => rfl, fun e => h10 (add_ne e (by decide)), fun e => h11 (add_ne e (by decide)), fun e => h12 (add_ne e (by decide)), fun e => h13 (add_ne e (by decide)), fun e => h14 (add_ne e (by decide)), fun e => h15 (add_ne e (by decide)), fun e => h16 (add_ne e (by decide)), fun e => h17 (add_ne e (by decide)), fun e f => hsl (add_ne e (by decide)) (by cases h : L 19 with | false => rfl | true => rw [add_old h] at f; cases f), fun e => hol (by cases h : L 19 with | false => rfl | true => rw [add_old h] at e; cases e), fun e => hnw (add_ne e (by decide)), fun e => h20 (add_ne e (by decide)), fun e => let ⟨a, b⟩ := h1918 (add_ne e (by decide)); ⟨add_old a, add_old b⟩, fun e => h20f (by cases h : L 20 with | false => rfl | true => rw [add_old h] at e; cases e), fun e => add_old (h2019 (add_ne e (by decide)))⟩
                    · -- 10
                      have e9 := h9 (hdep 9 (by decide +kernel))
                      subst e9
                      have z := (hB.cell (p := ⟨rb, off + d * 3 + 1, none⟩) hbs).trans hq1'
                      refine wpOp_step rfl fun K hK => ?_
                      go_simp
                      exact hK _ _ ⟨_, _, _, _, _, _, _, _, _, _, _, _, _, _, _, _, _, _, _, _, _, rfl, hB, fun e => h0 (add_ne e (by decide)), fun e => h1 (add_ne e (by decide)), fun e => h2 (add_ne e (by decide)), fun e => h3 (add_ne e (by decide)), fun e => h4 (add_ne e (by decide)), fun e => h5 (add_ne e (by decide)), fun e => h6 (add_ne e (by decide)), fun e => h7 (add_ne e (by decide)), fun e => h8 (add_ne e (by decide)), fun e => h9 (add_ne e (by decide)), fun _ => rfl, fun e => h11 (add_ne e (by decide)), fun e => h12 (add_ne e (by decide)), fun e => h13 (add_ne e (by decide)), fun e => h14 (add_ne e (by decide)), fun e => h15 (add_ne e (by decide)), fun e => h16 (add_ne e (by decide)), fun e => h17 (add_ne e (by decide)), fun e f => hsl (add_ne e (by decide)) (by cases h : L 19 with | false => rfl | true => rw [add_old h] at f; cases f), fun e => hol (by cases h : L 19 with | false => rfl | true => rw [add_old h] at e; cases e), fun e => hnw (add_ne e (by decide)), fun e => h20 (add_ne e (by decide)), fun e => let ⟨a, b⟩ := h1918 (add_ne e (by decide)); ⟨add_old a, add_old b⟩, fun e => h20f (by cases h : L 20 with | false => rfl | true => rw [add_old h] at e; cases e), fun e => add_old (h2019 (add_ne e (by decide)))⟩
                    · -- 11
                      refine wpOp_step rfl fun K hK => ?_
                      go_simp
                      exact hK _ _ ⟨_, _, _, _, _, _, _, _, _, _, _, _, _, _, _, _, _, _, _, _, _, rfl, hB, fun e => h0 (add_ne e (by decide)), fun e => h1 (add_ne e (by decide)), fun e => h2 (add_ne e (by decide)), fun e => h3 (add_ne e (by decide)), fun e => h4 (add_ne e (by decide)), fun e => h5 (add_ne e (by decide)), fun e => h6 (add_ne e (by decide)), fun e => h7 (add_ne e (by decide)), fun e => h8 (add_ne e (by decide)), fun e => h9 (add_ne e (by decide)), fun e => h10 (add_ne e (by decide)), fun _ => rfl, fun e => h12 (add_ne e (by decide)), fun e => h13 (add_ne e (by decide)), fun e => h14 (add_ne e (by decide)), fun e => h15 (add_ne e (by decide)), fun e => h16 (add_ne e (by decide)), fun e => h17 (add_ne e (by decide)), fun e f => hsl (add_ne e (by decide)) (by cases h : L 19 with | false => rfl | true => rw [add_old h] at f; cases f), fun e => hol (by cases h : L 19 with | false => rfl | true => rw [add_old h] at e; cases e), fun e => hnw (add_ne e (by decide)), fun e => h20 (add_ne e (by decide)), fun e => let ⟨a, b⟩ := h1918 (add_ne e (by decide)); ⟨add_old a, add_old b⟩, fun e => h20f (by cases h : L 20 with | false => rfl | true => rw [add_old h] at e; cases e), fun e => add_old (h2019 (add_ne e (by decide)))⟩
                    · -- 12
                      refine wpOp_step rfl fun K hK => ?_
                      go_simp
                      exact hK _ _ ⟨_, _, _, _, _, _, _, _, _, _, _, _, _, _, _, _, _, _, _, _, _, rfl, hB, fun e => h0 (add_ne e (by decide)), fun e => h1 (add_ne e (by decide)), fun e => h2 (add_ne e (by decide)), fun e => h3 (add_ne e (by decide)), fun e => h4 (add_ne e (by decide)), fun e => h5 (add_ne e (by decide)), fun e => h6 (add_ne e (by decide)), fun e => h7 (add_ne e (by decide)), fun e => h8 (add_ne e (by decide)), fun e => h9 (add_ne e (by decide)), fun e => h10 (add_ne e (by decide)), fun e => h11 (add_ne e (by decide)), fun _ => rfl, fun e => h13 (add_ne e (by decide)), fun e => h14 (add_ne e (by decide)), fun e => h15 (add_ne e (by decide)), fun e => h16 (add_ne e (by decide)), fun e => h17 (add_ne e (by decide)), fun e f => hsl (add_ne e (by decide)) (by cases h : L 19 with | false => rfl | true => rw [add_old h] at f; cases f), fun e => hol (by cases h : L 19 with | false => rfl | true => rw [add_old h] at e; cases e), fun e => hnw (add_ne e (by decide)), fun e => h20 (add_ne e (by decide)), fun e => let ⟨a, b⟩ := h1918 (add_ne e (by decide)); ⟨add_old a, add_old b⟩, fun e => h20f (by cases h : L 20 with | false => rfl | true => rw [add_old h] at e; cases e), fun e => add_old (h2019 (add_ne e (by decide)))⟩
                    · -- 13
                      have e11 := h11 (hdep 11 (by decide +kernel))
                      subst e11
                      have e12 := h12 (hdep 12 (by decide +kernel))
                      subst e12
                      refine wpOp_step rfl fun K hK => ?_
                      go_simp
                      exact hK _ _ ⟨_, _, _, _, _, _, _, _, _, _, _, _, _, _, _, _, _, _, _, _, _, rfl, hB, fun e => h0 (add_ne e (by decide)), fun e => h1 (add_ne e (by decide)), fun e => h2 (add_ne e (by decide)), fun e => h3 (add_ne e (by decide)), fun e => h4 (add_ne e (by decide)), fun e => h5 (add_ne e (by decide)), fun e => h6 (add_ne e (by decide)), fun e => h7 (add_ne e (by decide)), fun e => h8 (add_ne e (by decide)), fun e => h9 (add_ne e (by decide)), fun e => h10 (add_ne e (by decide)), fun e => h11 (add_ne e (by decide)), fun e => h12 (add_ne e (by decide)), fun _ => rfl, fun e => h14 (add_ne e (by decide)), fun e => h15 (add_ne e (by decide)), fun e => h16 (add_ne e (by decide)), fun e => h17 (add_ne e (by decide)), fun e f => hsl (add_ne e (by decide)) (by cases h : L 19 with | false => rfl | true => rw [add_old h] at f; cases f), fun e => hol (by cases h : L 19 with | false => rfl | true => rw [add_old h] at e; cases e), fun e => hnw (add_ne e (by decide)), fun e => h20 (add_ne e (by decide)), fun e => let ⟨a, b⟩ := h1918 (add_ne e (by decide)); ⟨add_old a, add_old b⟩, fun e => h20f (by cases h : L 20 with | false => rfl | true => rw [add_old h] at e; cases e), fun e => add_old (h2019 (add_ne e (by decide)))⟩
                    · -- 14
                      have e13 := h13 (hdep 13 (by decide +kernel))
                      subst e13
                      refine wpOp_step rfl fun K hK => ?_
                      go_simp
                      exact hK _ _ ⟨_, _, _, _, _, _, _, _, _, _, _, _, _, _, _, _, _, _, _, _, _, rfl, hB, fun e => h0 (add_ne e (by decide)), fun e => h1 (add_ne e (by decide)), fun e => h2 (add_ne e (by decide)), fun e => h3 (add_ne e (by decide)), fun e => h4 (add_ne e (by decide)), fun e => h5 (add_ne e (by decide)), fun e => h6 (add_ne e (by decide)), fun e => h7 (add_ne e (by decide)), fun e => h8 (add_ne e (by decide)), fun e => h9 (add_ne e (by decide)), fun e => h10 (add_ne e (by decide)), fun e => h11 (add_ne e (by decide)), fun e => h12 (add_ne e (by decide)), fun e => h13 (add_ne e (by decide)), fun _ => rfl, fun e => h15 (add_ne e (by decide)), fun e => h16 (add_ne e (by decide)), fun e => h17 (add_ne e (by decide)), fun e f => hsl (add_ne e (by decide)) (by cases h : L 19 with | false => rfl | true => rw [add_old h] at f; cases f), fun e => hol (by cases h : L 19 with | false => rfl | true => rw [add_old h] at e; cases e), fun e => hnw (add_ne e (by decide)), fun e => h20 (add_ne e (by decide)), fun e => let ⟨a, b⟩ := h1918 (add_ne e (by decide)); ⟨add_old a, add_old b⟩, fun e => h20f (by cases h : L 20 with | false => rfl | true => rw [add_old h] at e; cases e), fun e => add_old (h2019 (add_ne e (by decide)))⟩
                    · -- 15
                      have e14 := h14 (hdep 14 (by decide +kernel))
                      subst e14
                      have z := (hB.cell (p := ⟨rb, off + d * 3 + 2, none⟩) hbs).trans hq2'
                      refine wpOp_step rfl fun K hK => ?_
                      go_simp
                      exact hK _ _ ⟨_, _, _, _, _, _, _, _, _, _, _, _, _, _, _, _, _, _, _, _, _, rfl, hB, fun e => h0 (add_ne e (by decide)), fun e => h1 (add_ne e (by decide)), fun e => h2 (add_ne e (by decide)), fun e => h3 (add_ne e (by decide)), fun e => h4 (add_ne e (by decide)), fun e => h5 (add_ne e (by decide)), fun e => h6 (add_ne e (by decide)), fun e => h7 (add_ne e (by decide)), fun e => h8 (add_ne e (by decide)), fun e => h9 (add_ne e (by decide)), fun e => h10 (add_ne e (by decide)), fun e => h11 (add_ne e (by decide)), fun e => h12 (add_ne e (by decide)), fun e => h13 (add_ne e (by decide)), fun e => h14 (add_ne e (by decide)), fun _ => rfl, fun e => h16 (add_ne e (by decide)), fun e => h17 (add_ne e (by decide)), fun e f => hsl (add_ne e (by decide)) (by cases h : L 19 with | false => rfl | true => rw [add_old h] at f; cases f), fun e => hol (by cases h : L 19 with | false => rfl | true => rw [add_old h] at e; cases e), fun e => hnw (add_ne e (by decide)), fun e => h20 (add_ne e (by decide)), fun e => let ⟨a, b⟩ := h1918 (add_ne e (by decide)); ⟨add_old a, add_old b⟩, fun e => h20f (by cases h : L 20 with | false => rfl | true => rw [add_old h] at e; cases e), fun e => add_old (h2019 (add_ne e (by decide)))⟩
                    · -- 16
                      have e15 := h15 (hdep 15 (by decide +kernel))
                      subst e15
                      refine wpOp_step rfl fun K hK => ?_
                      go_simp
                      exact hK _ _ ⟨_, _, _, _, _, _, _, _, _, _, _, _, _, _, _, _, _, _, _, _, _, rfl, hB, fun e => h0 (add_ne e (by decide)), fun e => h1 (add_ne e (by decide)), fun e => h2 (add_ne e (by decide)), fun e => h3 (add_ne e (by decide)), fun e => h4 (add_ne e (by decide)), fun e => h5 (add_ne e (by decide)), fun e => h6 (add_ne e (by decide)), fun e => h7 (add_ne e (by decide)), fun e => h8 (add_ne e (by decide)), fun e => h9 (add_ne e (by decide)), fun e => h10 (add_ne e (by decide)), fun e => h11 (add_ne e (by decide)), fun e => h12 (add_ne e (by decide)), fun e => h13 (add_ne e (by decide)), fun e => h14 (add_ne e (by decide)), fun e => h15 (add_ne e (by decide)), fun _ => rfl, fun e => h17 (add_ne e (by decide)), fun e f => hsl (add_ne e (by decide)) (by cases h : L 19 with | false => rfl | true => rw [add_old h] at f; cases f), fun e => hol (by cases h : L 19 with | false => rfl | true => rw [add_old h] at e; cases e), fun e => hnw (add_ne e (by decide)), fun e => h20 (add_ne e (by decide)), fun e => let ⟨a, b⟩ := h1918 (add_ne e (by decide)); ⟨add_old a, add_old b⟩, fun e => h20f (by cases h : L 20 with | false => rfl | true => rw [add_old h] at e; cases e), fun e => add_old (h2019 (add_ne e (by decide)))⟩
                    · -- 17
                      have e5 := h5 (hdep 5 (by decide +kernel))
                      subst e5
                      have e10 := h10 (hdep 10 (by decide +kernel))
                      subst e10
                      have e16 := h16 (hdep 16 (by decide +kernel))
                      subst e16
                      refine wpOp_step rfl fun K hK => ?_
                      go_simp
                      exact hK _ _ ⟨_, _, _, _, _, _, _, _, _, _, _, _, _, _, _, _, _, _, _, _, _, rfl, hB, fun e => h0 (add_ne e (by decide)), fun e => h1 (add_ne e (by decide)), fun e => h2 (add_ne e (by decide)), fun e => h3 (add_ne e (by decide)), fun e => h4 (add_ne e (by decide)), fun e => h5 (add_ne e (by decide)), fun e => h6 (add_ne e (by decide)), fun e => h7 (add_ne e (by decide)), fun e => h8 (add_ne e (by decide)), fun e => h9 (add_ne e (by decide)), fun e => h10 (add_ne e (by decide)), fun e => h11 (add_ne e (by decide)), fun e => h12 (add_ne e (by decide)), fun e => h13 (add_ne e (by decide)), fun e => h14 (add_ne e (by decide)), fun e => h15 (add_ne e (by decide)), fun e => h16 (add_ne e (by decide)), fun _ => rfl, fun e f => hsl (add_ne e (by decide)) (by cases h : L 19 with | false => rfl | true => rw [add_old h] at f; cases f), fun e => hol (by cases h : L 19 with | false => rfl | true => rw [add_old h] at e; cases e), fun e => hnw (add_ne e (by decide)), fun e => h20 (add_ne e (by decide)), fun e => let ⟨a, b⟩ := h1918 (add_ne e (by decide)); ⟨add_old a, add_old b⟩, fun e => h20f (by cases h : L 20 with | false => rfl | true => rw [add_old h] at e; cases e), fun e => add_old (h2019 (add_ne e (by decide)))⟩
                    · -- 18
                      have e17 := h17 (hdep 17 (by decide +kernel))
                      subst e17
                      refine wpOp_step rfl fun K hK => ?_
                      go_simp
                      exact hK _ _ ⟨_, _, _, _, _, _, _, _, _, _, _, _, _, _, _, _, _, _, _, _, _, rfl, hB.alloc hB.size _, fun e => h0 (add_ne e (by decide)), fun e => h1 (add_ne e (by decide)), fun e => h2 (add_ne e (by decide)), fun e => h3 (add_ne e (by decide)), fun e => h4 (add_ne e (by decide)), fun e => h5 (add_ne e (by decide)), fun e => h6 (add_ne e (by decide)), fun e => h7 (add_ne e (by decide)), fun e => h8 (add_ne e (by decide)), fun e => h9 (add_ne e (by decide)), fun e => h10 (add_ne e (by decide)), fun e => h11 (add_ne e (by decide)), fun e => h12 (add_ne e (by decide)), fun e => h13 (add_ne e (by decide)), fun e => h14 (add_ne e (by decide)), fun e => h15 (add_ne e (by decide)), fun e => h16 (add_ne e (by decide)), fun e => h17 (add_ne e (by decide)), fun _ _ => ⟨_, rfl, heap_alloc_new wz _⟩, fun e => (hol (by cases h : L 19 with | false => rfl | true => rw [add_old h] at e; cases e)).block fun g hg => Below.heap_alloc _ _ _ ((hol (by cases h : L 19 with | false => rfl | true => rw [add_old h] at e; cases e)).lt g hg).2, fun e => (by have := (h1918 (add_ne e (by decide))).1; rw [hni] at this; cases this), fun e => h20 (add_ne e (by decide)), fun e => let ⟨a, b⟩ := h1918 (add_ne e (by decide)); ⟨add_old a, add_old b⟩, fun e => h20f (by cases h : L 20 with | false => rfl | true => rw [add_old h] at e; cases e), fun e => add_old (h2019 (add_ne e (by decide)))⟩
                    · -- 19
                      have e0 := h0 (hdep 0 (by decide +kernel))
                      obtain rfl : u16 = v64 := e0.symm
                      obtain ⟨g, eg, hg⟩ := hsl (hdep 18 (by decide +kernel)) hni
                      subst eg
                      have ho := hol hni
                      obtain ⟨v', w', hrun, hO, hG⟩ := appP_run wz W0.heap.size u16 _ ho hB.size g ⟨y.m, y.c, -y.a⟩ hg (by rw [offP_len, List.length_drop]; omega)
                      refine wpOp_step rfl fun K hK => ?_
                      refine step_app rfl (.tmp 64) (.tmp 82) 32 32 rfl _ _ _ _ rfl rfl hrun ?_
                      exact hK _ _ ⟨_, _, _, _, _, _, _, _, _, _, _, _, _, _, _, _, _, _, _, _, _, rfl, hB.grown hG hB.size (fun k hk => (ho.lt k hk).1), fun e => h0 (add_ne e (by decide)), fun e => h1 (add_ne e (by decide)), fun e => h2 (add_ne e (by decide)), fun e => h3 (add_ne e (by decide)), fun e => h4 (add_ne e (by decide)), fun e => h5 (add_ne e (by decide)), fun e => h6 (add_ne e (by decide)), fun e => h7 (add_ne e (by decide)), fun e => h8 (add_ne e (by decide)), fun e => h9 (add_ne e (by decide)), fun e => h10 (add_ne e (by decide)), fun e => h11 (add_ne e (by decide)), fun e => h12 (add_ne e (by decide)), fun e => h13 (add_ne e (by decide)), fun e => h14 (add_ne e (by decide)), fun e => h15 (add_ne e (by decide)), fun e => h16 (add_ne e (by decide)), fun e => h17 (add_ne e (by decide)), fun _ e => (by have := add_iff.2 (.inr rfl : L 19 = true ∨ 19 = 19); rw [this] at e; cases e), fun e => (by have := add_iff.2 (.inr rfl : L 19 = true ∨ 19 = 19); rw [this] at e; cases e), fun _ => hO, fun e => (by have := h2019 (add_ne e (by decide)); rw [hni] at this; cases this), fun _ => ⟨add_old (hdep 18 (by decide +kernel)), add_old (hdep 0 (by decide +kernel))⟩, fun e => h20f (by cases h : L 20 with | false => rfl | true => rw [add_old h] at e; cases e), fun e => add_old (h2019 (add_ne e (by decide)))⟩
                    · -- 20
                      refine wpOp_step rfl fun K hK => ?_
                      go_simp
                      exact hK _ _ ⟨_, _, _, _, _, _, _, _, _, _, _, _, _, _, _, _, _, _, _, _, _, rfl, hB, fun e => h0 (add_ne e (by decide)), fun e => h1 (add_ne e (by decide)), fun e => h2 (add_ne e (by decide)), fun e => h3 (add_ne e (by decide)), fun e => h4 (add_ne e (by decide)), fun e => h5 (add_ne e (by decide)), fun e => h6 (add_ne e (by decide)), fun e => h7 (add_ne e (by decide)), fun e => h8 (add_ne e (by decide)), fun e => h9 (add_ne e (by decide)), fun e => h10 (add_ne e (by decide)), fun e => h11 (add_ne e (by decide)), fun e => h12 (add_ne e (by decide)), fun e => h13 (add_ne e (by decide)), fun e => h14 (add_ne e (by decide)), fun e => h15 (add_ne e (by decide)), fun e => h16 (add_ne e (by decide)), fun e => h17 (add_ne e (by decide)), fun e f => hsl (add_ne e (by decide)) (by cases h : L 19 with | false => rfl | true => rw [add_old h] at f; cases f), fun e => hol (by cases h : L 19 with | false => rfl | true => rw [add_old h] at e; cases e), fun e => hnw (add_ne e (by decide)), fun _ => rfl, fun e => let ⟨a, b⟩ := h1918 (add_ne e (by decide)); ⟨add_old a, add_old b⟩, fun e => (by have := add_iff.2 (.inr rfl : L 20 = true ∨ 20 = 20); rw [this] at e; cases e), fun _ => add_old (hdep 19 (by decide +kernel))⟩
                  · intro L az wz hI hL
                    obtain ⟨v16, v64, v65, v66, v67, v68, v69, v70, v71, v72, v73, v74, v75, v76, v77, v78, v79, v80, v81, v82, v83, rfl, hB, h0, h1, h2, h3, h4, h5, h6, h7, h8, h9, h10, h11, h12, h13, h14, h15, h16, h17, hsl, hol, hnw, h20, h1918, h20f, h2019⟩ := hI
                    have e20 := h20 (hL 20 (by decide))
                    have hOn := hnw (hL 19 (by decide))
                    rw [← hstep.out, ← e20] at hOn
                    refine hK1 _ _ (Met.intro (hJ1 _ _ ?_))
                    (repeat apply Exists.intro)
                    refine ⟨?rel, rfl⟩
                    case rel => exact Lib.hid ⟨hOn, hB, hminn.out⟩
              case rest =>
                go_wp2_with fail
                go_roundw
                case rel => exact ⟨d, by omega, by go_num, hcut⟩
                case measure => simp [intOf]
            · obtain rfl : j = 0 := by omega
              have dz : ¬ (0 : Int) ≤ ((0 : Nat) : Int) - 1 := by omega
              have hFo := hF.out.own
              have hFm := hF.out.min
              have hFb := hF.out.blw
              rw [List.drop_zero] at hFo hFm
              obtain ⟨pv, cv, hsh⟩ := hFo.shape
              have hl2 : (offP ps).length = len2 := (offP_len ps).trans hps
              have hrowP : PRow wr pv (offP ps).length (offP ps) := by rw [hsh] at hFo; exact hFo.row (offP_in hm6.out.2.1 hFm)
              rw [hl2] at hrowP hsh
              subst hsh
              have hS7 := hS6.out.below hFb
              have cP2 : Calls Try.prog 23 #[.pointer (some ⟨b, 0, none⟩), .slice pv len2 cv] wr fun e w' => e = .returned (.int .i64 0) ∧ OSt I w1 b l w' := by
                refine (I.post _ b ln pv _ cv (offP ps) wr hS7.led hS7.good hrowP hl30 (fun i hi => by have := hS7.blw.size; omega)).mono ?_
                rintro e w' ⟨rfl, hL, hK⟩
                rw [hback.out] at hL ⊢
                exact ⟨rfl, hS7.call hL hK hlg.out⟩
              replace hl2 := Lib.hid hl2
              replace hrowP := Lib.hid hrowP
              replace cP2 := Lib.hid cP2
              replace hS7 := Lib.hid hS7
              replace hFo := Lib.hid hFo
              replace hFm := Lib.hid hFm
              replace hFb := Lib.hid hFb
              go_wp2_with fail
              with_reducible refine cP2.out.mono ?_
              rintro e w7 ⟨rfl, hS8⟩
              replace hS8 := Lib.hid hS8
              go_wp2_with fail
              with_reducible refine (cT.out _ hS8.out).mono ?_
              rintro e w8 ⟨rfl, hS9⟩
              replace hS9 := Lib.hid hS9
              have hbW := (hS9.out.blw.block _ hul1).trans hbx1.out
              have b1 : w8.cell? ⟨w.heap.size, 1, none⟩ = some (.int .i64 x.m) := obj_cell hbW rfl
              have b2 : w8.cell? ⟨w.heap.size, 2, none⟩ = some (.int .i64 x.c) := obj_cell hbW rfl
              have b4 : w8.cell? ⟨w.heap.size, 4, none⟩ = some (.int .i64 x.a) := obj_cell hbW rfl
              have cG := I.get x.m x.c hS9.out.led
              have hinb := @inn_back l hlg.out x.m x.c x.a
              have hisame : (l.inn x.m x.c x.a).1 ≠ 0 → (l.inn x.m x.c x.a).2 = l := (inn_good hlg.out _ _ _).2.2
              have higood := (inn_good hlg.out x.m x.c x.a).1
              generalize hgv : l.get x.m x.c = gv at *
              replace cG := Lib.hid cG
              replace hbW := Lib.hid hbW
              replace hgv := Lib.hid hgv
              by_cases hneg : gv < 0
              · replace hinb := Lib.hid @hinb
                replace hisame := Lib.hid hisame
                replace higood := Lib.hid higood
                go_upto_region 24 with (fail)
                go_wp2_with fail
                with_reducible refine cG.out.mono ?_
                rintro e wa ⟨rfl, hBa⟩
                have hSa := Lib.hid (hS9.out.below hBa)
                replace hBa := Lib.hid hBa
                go_wp2_with fail
                with_reducible refine (cT.out _ hSa.out).mono ?_
                rintro e wb ⟨rfl, hSb⟩
                replace hSb := Lib.hid hSb
                go_wp2_with fail
                go_ret
                exact ⟨rfl, hB1.out.trans (hSb.out.blw.mono hB1.out.size)⟩
              · have hgb : 0 ≤ gv := by omega
                have hgnb : decide (gv < 0) = false := decide_eq_false hneg
                go_upto_region 24 with (fail)
                go_wp2_with fail
                with_reducible refine cG.out.mono ?_
                rintro e wa ⟨rfl, hBa⟩
                have hSa := hS9.out.below hBa
                have hba := (hBa.block _ (Nat.lt_of_lt_of_le hul1 hS9.out.blw.size)).trans hbW.out
                have b1' : wa.cell? ⟨w.heap.size, 1, none⟩ = some (.int .i64 x.m) := obj_cell hba rfl
                have b2' : wa.cell? ⟨w.heap.size, 2, none⟩ = some (.int .i64 x.c) := obj_cell hba rfl
                have b4' : wa.cell? ⟨w.heap.size, 4, none⟩ = some (.int .i64 x.a) := obj_cell hba rfl
                have cI : Calls Try.prog 24 #[.pointer (some ⟨b, 0, none⟩), .int .i64 x.m, .int .i64 x.c, .int .i64 x.a] wa fun e w' => e = .returned (.int .i64 (l.inn x.m x.c x.a).1) ∧ OSt I w1 b (l.inn x.m x.c x.a).2 w' ∧ w'.heap[w.heap.size]? = wa.heap[w.heap.size]? := by
                  refine (I.inn _ b l x.m x.c x.a wa hSa.led hlg.out hxm.out (fun i hi => by have := hSa.blw.size; omega)).mono ?_
                  rintro e w' ⟨rfl, hL, hK⟩
                  exact ⟨rfl, hSa.call hL hK higood, hK.block _ (Nat.lt_of_lt_of_le hul1 hSa.blw.size) (fun h => by omega)⟩
                replace hBa := Lib.hid hBa
                replace hba := Lib.hid hba
                replace hSa := Lib.hid hSa
                clear b1 b2 b4
                by_cases hi0 : (l.inn x.m x.c x.a).1 = 0
                · rw [hi0] at cI
                  have hbk := hinb hi0 hgb
                  generalize (l.inn x.m x.c x.a).2 = li at *
                  replace cI := Lib.hid cI
                  replace hbk := Lib.hid hbk
                  replace hinb := Lib.hid @hinb
                  replace hisame := Lib.hid hisame
                  replace higood := Lib.hid higood
                  replace hi0 := Lib.hid hi0
                  replace hgb := Lib.hid hgb
                  go_wp2_with fail
                  with_reducible refine cI.out.mono ?_
                  rintro e wb ⟨rfl, hSb, hbb⟩
                  have hbb2 := hbb.trans hba.out
                  have d1 : wb.cell? ⟨w.heap.size, 1, none⟩ = some (.int .i64 x.m) := obj_cell hbb2 rfl
                  have d2 : wb.cell? ⟨w.heap.size, 2, none⟩ = some (.int .i64 x.c) := obj_cell hbb2 rfl
                  have d4 : wb.cell? ⟨w.heap.size, 4, none⟩ = some (.int .i64 x.a) := obj_cell hbb2 rfl
                  have cO : Calls Try.prog 25 #[.pointer (some ⟨b, 0, none⟩), .int .i64 x.m, .int .i64 x.c, .int .i64 x.a] wb fun e w' => e = .returned (.int .i64 0) ∧ OSt I w1 b l w' := by
                    refine (I.out _ b li x.m x.c x.a wb hSb.led hSb.good hxm.out (fun i hi => by have := hSb.blw.size; omega)).mono ?_
                    rintro e w' ⟨rfl, hL, hK⟩
                    rw [hbk.out] at hL ⊢
                    exact ⟨rfl, hSb.call hL hK hlg.out⟩
                  replace cO := Lib.hid cO
                  replace hSb := Lib.hid hSb
                  replace hbb := Lib.hid hbb
                  replace hbb2 := Lib.hid hbb2
                  go_upto_region 26 with (fail)
                  go_wp2_with fail
                  with_reducible refine cO.out.mono ?_
                  rintro e wc ⟨rfl, hSc⟩
                  replace hSc := Lib.hid hSc
                  go_wp2_with fail
                  with_reducible refine (cT.out _ hSc.out).mono ?_
                  rintro e wd ⟨rfl, hSd⟩
                  replace hSd := Lib.hid hSd
                  go_wp2_with fail
                  go_ret
                  exact ⟨rfl, hB1.out.trans (hSd.out.blw.mono hB1.out.size)⟩
                · have hib : ((l.inn x.m x.c x.a).1 == 0) = false := by rw [beq_eq_false_iff_ne]; exact hi0
                  have hib2 : ((l.inn x.m x.c x.a).1 != 0) = true := by rw [bne_iff_ne]; exact hi0
                  rw [hisame hi0] at cI
                  generalize (l.inn x.m x.c x.a).1 = ie at *
                  replace cI := Lib.hid cI
                  replace hinb := Lib.hid @hinb
                  replace hisame := Lib.hid hisame
                  replace higood := Lib.hid higood
                  replace hi0 := Lib.hid hi0
                  replace hgb := Lib.hid hgb
                  go_wp2_with fail
                  with_reducible refine cI.out.mono ?_
                  rintro e wb ⟨rfl, hSb, hbb⟩
                  replace hSb := Lib.hid hSb
                  replace hbb := Lib.hid hbb
                  go_wp2_with fail
                  with_reducible refine (cT.out _ hSb.out).mono ?_
                  rintro e wc ⟨rfl, hSc⟩
                  replace hSc := Lib.hid hSc
                  go_wp2_with fail
                  go_ret
                  exact ⟨rfl, hB1.out.trans (hSc.out.blw.mono hB1.out.size)⟩
        · have hpb : ((l.post ps).1 == 0) = false := by rw [beq_eq_false_iff_ne]; exact hp0
          rw [hsame.out hp0] at cP
          generalize (l.post ps).1 = pe at *
          replace hp0 := Lib.hid hp0
          go_wp2_with fail
          with_reducible refine cP.out.mono ?_
          rintro e w8 ⟨rfl, hS9⟩
          replace hS9 := Lib.hid hS9
          have hbW := (hS9.out.blw.block _ hul1).trans hbx1.out
          have b1 : w8.cell? ⟨w.heap.size, 1, none⟩ = some (.int .i64 x.m) := obj_cell hbW rfl
          have b2 : w8.cell? ⟨w.heap.size, 2, none⟩ = some (.int .i64 x.c) := obj_cell hbW rfl
          have b4 : w8.cell? ⟨w.heap.size, 4, none⟩ = some (.int .i64 x.a) := obj_cell hbW rfl
          have cG := I.get x.m x.c hS9.out.led
          have hinb := @inn_back l hlg.out x.m x.c x.a
          have hisame : (l.inn x.m x.c x.a).1 ≠ 0 → (l.inn x.m x.c x.a).2 = l := (inn_good hlg.out _ _ _).2.2
          have higood := (inn_good hlg.out x.m x.c x.a).1
          generalize hgv : l.get x.m x.c = gv at *
          replace cG := Lib.hid cG
          replace hbW := Lib.hid hbW
          replace hgv := Lib.hid hgv
          by_cases hneg : gv < 0
          · replace hinb := Lib.hid @hinb
            replace hisame := Lib.hid hisame
            replace higood := Lib.hid higood
            go_upto_region 24 with (fail)
            go_wp2_with fail
            with_reducible refine cG.out.mono ?_
            rintro e wa ⟨rfl, hBa⟩
            have hSa := Lib.hid (hS9.out.below hBa)
            replace hBa := Lib.hid hBa
            go_wp2_with fail
            with_reducible refine (cT.out _ hSa.out).mono ?_
            rintro e wb ⟨rfl, hSb⟩
            replace hSb := Lib.hid hSb
            go_wp2_with fail
            go_ret
            exact ⟨rfl, hB1.out.trans (hSb.out.blw.mono hB1.out.size)⟩
          · have hgb : 0 ≤ gv := by omega
            have hgnb : decide (gv < 0) = false := decide_eq_false hneg
            go_upto_region 24 with (fail)
            go_wp2_with fail
            with_reducible refine cG.out.mono ?_
            rintro e wa ⟨rfl, hBa⟩
            have hSa := hS9.out.below hBa
            have hba := (hBa.block _ (Nat.lt_of_lt_of_le hul1 hS9.out.blw.size)).trans hbW.out
            have b1' : wa.cell? ⟨w.heap.size, 1, none⟩ = some (.int .i64 x.m) := obj_cell hba rfl
            have b2' : wa.cell? ⟨w.heap.size, 2, none⟩ = some (.int .i64 x.c) := obj_cell hba rfl
            have b4' : wa.cell? ⟨w.heap.size, 4, none⟩ = some (.int .i64 x.a) := obj_cell hba rfl
            have cI : Calls Try.prog 24 #[.pointer (some ⟨b, 0, none⟩), .int .i64 x.m, .int .i64 x.c, .int .i64 x.a] wa fun e w' => e = .returned (.int .i64 (l.inn x.m x.c x.a).1) ∧ OSt I w1 b (l.inn x.m x.c x.a).2 w' ∧ w'.heap[w.heap.size]? = wa.heap[w.heap.size]? := by
              refine (I.inn _ b l x.m x.c x.a wa hSa.led hlg.out hxm.out (fun i hi => by have := hSa.blw.size; omega)).mono ?_
              rintro e w' ⟨rfl, hL, hK⟩
              exact ⟨rfl, hSa.call hL hK higood, hK.block _ (Nat.lt_of_lt_of_le hul1 hSa.blw.size) (fun h => by omega)⟩
            replace hBa := Lib.hid hBa
            replace hba := Lib.hid hba
            replace hSa := Lib.hid hSa
            clear b1 b2 b4
            by_cases hi0 : (l.inn x.m x.c x.a).1 = 0
            · rw [hi0] at cI
              have hbk := hinb hi0 hgb
              generalize (l.inn x.m x.c x.a).2 = li at *
              replace cI := Lib.hid cI
              replace hbk := Lib.hid hbk
              replace hinb := Lib.hid @hinb
              replace hisame := Lib.hid hisame
              replace higood := Lib.hid higood
              replace hi0 := Lib.hid hi0
              replace hgb := Lib.hid hgb
              go_wp2_with fail
              with_reducible refine cI.out.mono ?_
              rintro e wb ⟨rfl, hSb, hbb⟩
              have hbb2 := hbb.trans hba.out
              have d1 : wb.cell? ⟨w.heap.size, 1, none⟩ = some (.int .i64 x.m) := obj_cell hbb2 rfl
              have d2 : wb.cell? ⟨w.heap.size, 2, none⟩ = some (.int .i64 x.c) := obj_cell hbb2 rfl
              have d4 : wb.cell? ⟨w.heap.size, 4, none⟩ = some (.int .i64 x.a) := obj_cell hbb2 rfl
              have cO : Calls Try.prog 25 #[.pointer (some ⟨b, 0, none⟩), .int .i64 x.m, .int .i64 x.c, .int .i64 x.a] wb fun e w' => e = .returned (.int .i64 0) ∧ OSt I w1 b l w' := by
                refine (I.out _ b li x.m x.c x.a wb hSb.led hSb.good hxm.out (fun i hi => by have := hSb.blw.size; omega)).mono ?_
                rintro e w' ⟨rfl, hL, hK⟩
                rw [hbk.out] at hL ⊢
                exact ⟨rfl, hSb.call hL hK hlg.out⟩
              replace cO := Lib.hid cO
              replace hSb := Lib.hid hSb
              replace hbb := Lib.hid hbb
              replace hbb2 := Lib.hid hbb2
              go_upto_region 26 with (fail)
              go_wp2_with fail
              with_reducible refine cO.out.mono ?_
              rintro e wc ⟨rfl, hSc⟩
              replace hSc := Lib.hid hSc
              go_wp2_with fail
              with_reducible refine (cT.out _ hSc.out).mono ?_
              rintro e wd ⟨rfl, hSd⟩
              replace hSd := Lib.hid hSd
              go_wp2_with fail
              go_ret
              exact ⟨rfl, hB1.out.trans (hSd.out.blw.mono hB1.out.size)⟩
            · have hib : ((l.inn x.m x.c x.a).1 == 0) = false := by rw [beq_eq_false_iff_ne]; exact hi0
              have hib2 : ((l.inn x.m x.c x.a).1 != 0) = true := by rw [bne_iff_ne]; exact hi0
              rw [hisame hi0] at cI
              generalize (l.inn x.m x.c x.a).1 = ie at *
              replace cI := Lib.hid cI
              replace hinb := Lib.hid @hinb
              replace hisame := Lib.hid hisame
              replace higood := Lib.hid higood
              replace hi0 := Lib.hid hi0
              replace hgb := Lib.hid hgb
              go_wp2_with fail
              with_reducible refine cI.out.mono ?_
              rintro e wb ⟨rfl, hSb, hbb⟩
              replace hSb := Lib.hid hSb
              replace hbb := Lib.hid hbb
              go_wp2_with fail
              with_reducible refine (cT.out _ hSb.out).mono ?_
              rintro e wc ⟨rfl, hSc⟩
              replace hSc := Lib.hid hSc
              go_wp2_with fail
              go_ret
              exact ⟨rfl, hB1.out.trans (hSc.out.blw.mono hB1.out.size)⟩
end Go.Proofs.Ytghebijikdnikaa
