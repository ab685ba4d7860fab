/- The contracts of wire's takeIds, TakeReply: the program's replies keep their contracts. -/
import Derived.Test.YtgcliallkfnhaaaUI
import Derived.Test.YtgcliallkfnhaaaUG
import Derived.Test.YtgcliallkfnhaaaW7
namespace Go.Proofs.Ytgcliallkfnhaaa
open Go.RowKit
set_option linter.unusedVariables false

def textLen : Value → Nat
  | .string s => s.size
  | _ => 0
theorem wpList_appZ {ops : Array Oper} {rest : List Oper} {o : Oper} {a : Act} {w : World} {Q : Exit → Act → World → Prop} (hgd : o.guard = none) (sl x : Operand) (hty : o.type = 38)
    (ho : o.op = .call { callee := .builtin .append, args := #[sl, x], argTypes := #[38, 38] })
    (B : Nat) (v : Value) (l : List Int) (hs : a.eval sl = v) (hown : OwnZ B w v l) (hB : B ≤ w.heap.size) (b : Addr) (y : Int) (hx : a.eval x = .slice (some b) 1 1) (hy : w.cell? (b.add 0) = some (.int .i64 y)) (hn : l.length + 1 ≤ 33554432)
    (h : ∀ v' w', OwnZ B w' v' (l ++ [y]) → w.grownBy w' v.ownBlock → wpList Try.prog ops Q rest (a.put o.dst v') w') : wpList Try.prog ops Q (o :: rest) a w := by
  refine wpList_plain hgd fun K hK => ?_
  obtain ⟨v', w', hr, h2, h3⟩ := appZ_run w B v l hown hB b y hy hn
  unfold Oper.wp execOp
  simp only [ho, hty, resolve, invoke, builtin, Sem.run_bind, Sem.run_pure, Result.andThen_ok, List.map_toArray, List.map_cons, List.map_nil, hs, hx, hr]
  exact hK _ _ (h v' w' h2 h3)
theorem tl_empty (s : ByteArray) : s.toList.isEmpty = (bl s).isEmpty := by
  have e := mk_bl s
  generalize bl s = l at *
  subst e
  simp
/-- numbers of four bytes -/
def idsL (l : List UInt8) (m : Nat) : List Int := (List.range m).map fun i => ((vls ((l.drop (4 * i)).take 4) : Nat) : Int)
theorem idsL_succ (l : List UInt8) (m : Nat) : idsL l (m + 1) = idsL l m ++ [((vls ((l.drop (4 * m)).take 4) : Nat) : Int)] := by
  unfold idsL
  rw [List.range_succ, List.map_append]
  rfl

set_option maxHeartbeats 8000000 in
set_option maxRecDepth 100000 in
theorem takeIds_any (s : ByteArray) (m : Nat) (w : World) (hm : s.size = 4 * m) (hs : s.size ≤ 1000000) :
    Calls Try.prog 35 #[.string s] w fun e w' => ∃ v, e = .returned v ∧ OwnZ w.heap.size w' v (idsL (bl s) m) ∧ Below w.heap.size w w' := by
  have hbl := bl_length s
  go_enter Try.func35, Try.ntmps35
  go_wp2_with fail
  go_loopw [0, 3] (fun t v wr => ∃ (k : Nat) (sk : ByteArray), k ≤ m ∧ t = .string sk ∧ Hid (bl sk = (bl s).drop (4 * k)) ∧ Hid (OwnZ w.heap.size wr v (idsL (bl s) k) ∧ Below w.heap.size w wr)) (fun t _ _ => textLen t)
  case atStart => exact ⟨0, s, by omega, rfl, Lib.hid rfl, Lib.hid ⟨OwnZ.nil _ _, Below.refl _ _⟩⟩
  case round =>
    obtain ⟨k, sk, hk, rfl, hb, hS⟩ := hrel
    have hlk := congrArg List.length hb.out
    rw [bl_length, List.length_drop, hbl, hm] at hlk
    by_cases hkm : k < m
    · have hne : sk.toList.isEmpty = false := by
        rw [tl_empty]
        cases h : bl sk with
        | nil => have := congrArg List.length h; rw [bl_length, List.length_nil] at this; omega
        | cons a b => rfl
      have hT : ∀ w, Calls Try.prog 24 #[.string sk, .int .i64 4] w fun e w' => e = .returned (.tuple #[.int .i64 (toI (vls ((bl sk).take 4))), .string (sk.extract 4 sk.size)]) ∧ ∃ nq, w' = w.drewN nq := fun w => take24_any sk 4 w (by omega) (by omega) (by omega)
      have hval : toI (vls ((bl sk).take 4)) = ((vls (((bl s).drop (4 * k)).take 4) : Nat) : Int) := by
        have h1 := vls_lt ((bl sk).take 4)
        have h2 : (256 : Nat) ^ ((bl sk).take 4).length ≤ 256 ^ 4 := Nat.pow_le_pow_right (by omega) (by rw [List.length_take]; omega)
        have h3 : (256 : Nat) ^ 4 = 4294967296 := by decide
        rw [← hb.out]
        unfold toI
        rw [if_pos (by omega)]
      have hsu := idsL_succ (bl s) k
      have hbk : bl (sk.extract 4 sk.size) = (bl s).drop (4 * (k + 1)) := by rw [bl_from, hb.out, List.drop_drop, show 4 * k + 4 = 4 * (k + 1) by omega]
      have hsk : (sk.extract 4 sk.size).size + 4 = sk.size := by rw [ext_size _ _ _ (Nat.le_refl _)]; omega
      rw [hval] at hT
      generalize ((vls (((bl s).drop (4 * k)).take 4) : Nat) : Int) = x at *
      generalize sk.extract 4 sk.size = sn at *
      replace hT := Lib.hid hT
      replace hval := Lib.hid hval
      replace hsu := Lib.hid hsu
      replace hbk := Lib.hid hbk
      obtain ⟨p3, cap3, hv3, hrow3⟩ := hS.out.1.row
      have hll : (idsL (bl s) k).length = k := by unfold idsL; simp
      rw [hll] at hv3 hrow3
      subst hv3
      go_wp2_with fail
      with_reducible refine (hT.out _).mono ?_
      rintro e w4 ⟨rfl, nq, hw4⟩
      have hO4 : OwnZ w.heap.size w4 (.slice p3 k cap3) (idsL (bl s) k) := by rw [hw4]; exact hS.out.1
      have hB4 : Below w.heap.size w w4 := by rw [hw4]; exact below_drewN hS.out.2 nq
      have hO5 := hO4.alloc (.cells #[.int .i64 x] 3)
      have hB5 := hB4.alloc hB4.size (.cells #[.int .i64 x] 3)
      replace hO4 := Lib.hid hO4
      replace hB4 := Lib.hid hB4
      replace hO5 := Lib.hid hO5
      replace hB5 := Lib.hid hB5
      replace hw4 := Lib.hid hw4
      replace hrow3 := Lib.hid hrow3
      go_wp2_with (at_builtin; refine wpList_appZ rfl _ _ rfl rfl w.heap.size _ (idsL (bl s) k) rfl hO5.out hB5.out.size ⟨w4.heap.size, 0, none⟩ _ rfl (obj_cell (heap_alloc_new w4 _) rfl) (by rw [hll]; omega) ?_)
      intro v6 w6 hO6 hG6
      have hB6 : Below w.heap.size w w6 := hB5.out.grown hG6 hB5.out.size (fun q hq => (hO5.out.lt _ hq).1)
      rw [← hsu.out] at hO6
      replace hO6 := Lib.hid hO6
      replace hB6 := Lib.hid hB6
      replace hG6 := Lib.hid hG6
      go_wp2_with fail
      go_roundw
      case rel => exact ⟨k + 1, sn, by omega, rfl, hbk, Lib.hid ⟨hO6.out, hB6.out⟩⟩
      case measure => simp [textLen]; omega
    · obtain rfl : k = m := by omega
      have hse : sk.size = 0 := by omega
      have hne : sk.toList.isEmpty = true := by
        rw [tl_empty]
        cases h : bl sk with
        | nil => rfl
        | cons a b => have := congrArg List.length h; rw [bl_length, List.length_cons] at this; omega
      go_wp2_with fail
      go_ret
      exact ⟨_, rfl, hS.out.1, hS.out.2⟩

theorem results_take17 (tmps : Array Value) (w : World) (g : Nat) (cs : Array Value) (fr : Nat × Nat) (hp : tmps.getD 2 undef = .pointer (some ⟨g, 0, none⟩)) (hg : w.heap[g]? = some (.cells cs 40 fr)) (hs : (Try.prog.info? 40).map (·.size) = some cs.size) :
    (results Try.f17 tmps).run Try.prog w = .ok (.tuple #[.agg cs, tmps.getD 3 undef]) w := by
  rw [results_cell_tmp rfl, hp]
  simp [asAddr, run_loadVar_row w g 40 40 cs fr _ hg Try.underlying40 rfl hs]
theorem ids_from (s t : List UInt8) (h : t = s.drop 11) (m : Nat) : idsL t m = (List.range m).map (idAt s) := by
  unfold idsL
  refine List.map_congr_left fun i _ => ?_
  unfold idAt
  rw [h, List.drop_drop]

set_option maxHeartbeats 8000000 in
set_option maxRecDepth 100000 in
theorem takeP_any (s : ByteArray) (w : World) (hs : s.size ≤ 1000000) : Calls Try.prog 17 #[.string s] w fun e w' => TookP (takeP (bl s)) e w' ∧ Below w.heap.size w w' := by
  have hB0 : Below w.heap.size w (w.alloc (.cells noRep 40)) := (Below.refl _ _).alloc (Nat.le_refl _) _
  have hbx : (w.alloc (.cells noRep 40)).heap[w.heap.size]? = some (.cells noRep 40 (0, 0)) := heap_alloc_new w _
  have hbl := bl_length s
  unfold noRep at hB0 hbx
  generalize hv : w.alloc (.cells #[.int .i64 0, .int .i64 0, .slice none 0 0] 40) = v at *
  generalize hB : w.heap.size = B at *
  have hvs : v.heap.size = B + 1 := by rw [← hv, ← hB]; simp
  replace hv := Lib.hid hv
  replace hB := Lib.hid hB
  replace hB0 := Lib.hid hB0
  replace hbx := Lib.hid hbx
  replace hvs := Lib.hid hvs
  go_enter Try.func17, Try.ntmps17
  go_upto_region 1 with (fail)
  rw [hB.out]
  change Code.wp _ _ _ _ (w.alloc (.cells #[.int .i64 0, .int .i64 0, .slice none 0 0] 40))
  rw [hv.out]
  by_cases h11 : s.size < 11
  · have h11z : (s.size : Int) < 11 := by omega
    have hn : takeP (bl s) = none := takeP_none (fun h => by have := h.1; omega)
    replace hn := Lib.hid hn
    go_wp2_with (first | (refine wpList_store_row rfl 40 _ _ rfl B _ rfl rfl 40 _ hbx.out (by kernel_rfl) rfl (by simp [Value.oneCell']) ?_))
    (try simp only [Exit.inBlock, Exit.then])
    refine bodyPost_ret (results_take17 _ _ _ _ _ rfl (setRow_heap _ _ _ _ _ _ hbx.out) (by kernel_rfl)) rfl ?_
    exact ⟨by rw [hn.out]; rfl, below_setRow hB0.out (Nat.le_refl _) _⟩
  have h11z : ¬ (s.size : Int) < 11 := by omega
  have hpos : 0 < s.size := by omega
  have hT1 : ∀ w, Calls Try.prog 33 #[.string s, .int .i64 1] w fun e w' => e = .returned (.tuple #[.int .i64 ((s[0].toNat : Nat) : Int), .string (s.extract 1 s.size)]) ∧ ∃ nq, w' = w.drewN nq := fun w => by
    have := take33_any s 1 w (by omega) (by omega) hs
    rw [first_byte s hpos] at this
    exact this
  have hhd := head_get s hpos
  have hb1 := bl_from s 1
  have hz1 : (s.extract 1 s.size).size + 1 = s.size := by rw [ext_size _ _ _ (Nat.le_refl _)]; omega
  generalize s.extract 1 s.size = s1 at *
  have hT2 : ∀ w, Calls Try.prog 34 #[.string s1, .int .i64 8] w fun e w' => e = .returned (.tuple #[.int .i64 (toI (vls ((bl s1).take 8))), .string (s1.extract 8 s1.size)]) ∧ ∃ nq, w' = w.drewN nq := fun w => take34_any s1 8 w (by omega) (by omega) (by omega)
  have hb2 := bl_from s1 8
  have hz2 : (s1.extract 8 s1.size).size + 8 = s1.size := by rw [ext_size _ _ _ (Nat.le_refl _)]; omega
  generalize s1.extract 8 s1.size = s2 at *
  rw [hb1] at hT2 hb2
  rw [List.drop_drop] at hb2
  have hT3 : ∀ w, Calls Try.prog 24 #[.string s2, .int .i64 2] w fun e w' => e = .returned (.tuple #[.int .i64 (toI (vls ((bl s2).take 2))), .string (s2.extract 2 s2.size)]) ∧ ∃ nq, w' = w.drewN nq := fun w => take24_any s2 2 w (by omega) (by omega) (by omega)
  have hb3 := bl_from s2 2
  have hz3 : (s2.extract 2 s2.size).size + 2 = s2.size := by rw [ext_size _ _ _ (Nat.le_refl _)]; omega
  generalize s2.extract 2 s2.size = s3 at *
  rw [hb2] at hT3 hb3
  rw [List.drop_drop] at hb3
  have hc2 : cntP (bl s) < 65536 := by
    have := vls_lt (((bl s).drop 9).take 2)
    rw [List.length_take, List.length_drop, hbl] at this
    have h2 : (256 : Nat) ^ (min 2 (s.size - 9)) ≤ 256 ^ 2 := Nat.pow_le_pow_right (by omega) (by omega)
    have h3 : (256 : Nat) ^ 2 = 65536 := by decide
    unfold cntP
    omega
  have hcv : toI (vls (((bl s).drop (1 + 8)).take 2)) = ((cntP (bl s) : Nat) : Int) := by
    show toI (cntP (bl s)) = _
    unfold toI
    rw [if_pos (by omega)]
  rw [hcv] at hT3
  have htold : toldP (bl s) = ⟨((s[0].toNat : Nat) : Int), toI (vls (((bl s).drop 1).take 8)), (List.range (cntP (bl s))).map (idAt (bl s))⟩ := by unfold toldP; rw [hhd]
  have hids := ids_from (bl s) (bl s3) hb3 (cntP (bl s))
  generalize hnc : cntP (bl s) = n at *
  generalize ((s[0].toNat : Nat) : Int) = E at *
  generalize toI (vls (((bl s).drop 1).take 8)) = V at *
  replace hT1 := Lib.hid hT1
  replace hT2 := Lib.hid hT2
  replace hT3 := Lib.hid hT3
  replace htold := Lib.hid htold
  replace hids := Lib.hid hids
  replace hhd := Lib.hid hhd
  replace hb1 := Lib.hid hb1
  replace hb2 := Lib.hid hb2
  replace hb3 := Lib.hid hb3
  replace hcv := Lib.hid hcv
  replace hnc := Lib.hid hnc
  have hC0 := heap_alloc_new v (.cells #[.int .i64 0, .int .i64 0, .slice none 0 0] 40)
  have hA0 : Below v.heap.size v (v.alloc (.cells #[.int .i64 0, .int .i64 0, .slice none 0 0] 40)) := (Below.refl _ _).alloc (Nat.le_refl _) _
  replace hC0 := Lib.hid hC0
  replace hA0 := Lib.hid hA0
  go_wp2_with fail
  with_reducible refine (hT1.out _).mono ?_
  rintro e w1 ⟨rfl, nq1, hw1⟩
  have hC1 : w1.heap[v.heap.size]? = some (.cells #[.int .i64 0, .int .i64 0, .slice none 0 0] 40 (0, 0)) := by rw [hw1]; exact hC0.out
  have hA1 : Below v.heap.size v w1 := by rw [hw1]; exact below_drewN hA0.out nq1
  have a0 : w1.cell? ⟨v.heap.size, 0, none⟩ = some (.int .i64 0) := obj_cell hC1 rfl
  have z0 := obj_free hC1 0
  have hC2 : (w1.setCell ⟨v.heap.size, 0, none⟩ (.int .i64 E)).heap[v.heap.size]? = some (.cells #[.int .i64 E, .int .i64 0, .slice none 0 0] 40 (0, 0)) := obj_set hC1 0 (.int .i64 E)
  have hA2 : Below v.heap.size v (w1.setCell ⟨v.heap.size, 0, none⟩ (.int .i64 E)) := hA1.setCell (Nat.le_refl _) _
  replace hC1 := Lib.hid hC1
  replace hA1 := Lib.hid hA1
  replace hC2 := Lib.hid hC2
  replace hA2 := Lib.hid hA2
  replace hw1 := Lib.hid hw1
  go_wp2_with fail
  with_reducible refine (hT2.out _).mono ?_
  rintro e w2 ⟨rfl, nq2, hw2⟩
  have hC3 : w2.heap[v.heap.size]? = some (.cells #[.int .i64 E, .int .i64 0, .slice none 0 0] 40 (0, 0)) := by rw [hw2]; exact hC2.out
  have hA3 : Below v.heap.size v w2 := by rw [hw2]; exact below_drewN hA2.out nq2
  have a1 : w2.cell? ⟨v.heap.size, 1, none⟩ = some (.int .i64 0) := obj_cell hC3 rfl
  have z1 := obj_free hC3 1
  have hC4 : (w2.setCell ⟨v.heap.size, 1, none⟩ (.int .i64 V)).heap[v.heap.size]? = some (.cells #[.int .i64 E, .int .i64 V, .slice none 0 0] 40 (0, 0)) := obj_set hC3 1 (.int .i64 V)
  have hA4 : Below v.heap.size v (w2.setCell ⟨v.heap.size, 1, none⟩ (.int .i64 V)) := hA3.setCell (Nat.le_refl _) _
  replace hC3 := Lib.hid hC3
  replace hA3 := Lib.hid hA3
  replace hC4 := Lib.hid hC4
  replace hA4 := Lib.hid hA4
  replace hw2 := Lib.hid hw2
  go_wp2_with fail
  with_reducible refine (hT3.out _).mono ?_
  rintro e w3 ⟨rfl, nq3, hw3⟩
  have hC5 : w3.heap[v.heap.size]? = some (.cells #[.int .i64 E, .int .i64 V, .slice none 0 0] 40 (0, 0)) := by rw [hw3]; exact hC4.out
  have hA5 : Below v.heap.size v w3 := by rw [hw3]; exact below_drewN hA4.out nq3
  have hBb : B < v.heap.size := by rw [hvs.out]; omega
  have hbx5 := (hA5.block B hBb).trans hbx.out
  have hBB5 : Below B w w3 := hB0.out.trans (hA5.mono (Nat.le_of_lt hBb))
  replace hbx5 := Lib.hid hbx5
  replace hBB5 := Lib.hid hBB5
  replace hw3 := Lib.hid hw3
  clear a0 z0 a1 z1
  have hmul : IntKind.i64.wrap ((n : Int) * 4) = (n : Int) * 4 := by rw [IntKind.wrap_i64] <;> omega
  by_cases hsz : s3.size = 4 * n
  · have hszz : ((s3.size : Int) != (n : Int) * 4) = false := by simp; omega
    have cI := takeIds_any s3 n w3 hsz (by omega)
    rw [hids.out] at cI
    replace hC5 := Lib.hid hC5
    replace hA5 := Lib.hid hA5
    replace cI := Lib.hid cI
    go_wp2_with fail
    with_reducible refine cI.out.mono ?_
    rintro e w4 ⟨vi, rfl, hO, hB4⟩
    have hll : ((List.range n).map (idAt (bl s))).length = n := by simp
    obtain ⟨p, cap, hvi, hrow⟩ := hO.row
    rw [hll] at hvi hrow
    subst hvi
    have hC6 := (hB4.block _ (obj_lt hC5.out)).trans hC5.out
    have hA6 : Below v.heap.size v w4 := hA5.out.trans (hB4.mono hA5.out.size)
    have a2 : w4.cell? ⟨v.heap.size, 2, none⟩ = some (.slice none 0 0) := obj_cell hC6 rfl
    have z2 := obj_free hC6 2
    have hC7 : (w4.setCell ⟨v.heap.size, 2, none⟩ (.slice p n cap)).heap[v.heap.size]? = some (.cells #[.int .i64 E, .int .i64 V, .slice p n cap] 40 (0, 0)) := obj_set hC6 2 (.slice p n cap)
    have hA7 : Below v.heap.size v (w4.setCell ⟨v.heap.size, 2, none⟩ (.slice p n cap)) := hA6.setCell (Nat.le_refl _) _
    have hO7 : OwnZ w3.heap.size (w4.setCell ⟨v.heap.size, 2, none⟩ (.slice p n cap)) (.slice p n cap) ((List.range n).map (idAt (bl s))) := hO.block fun g hg => obj_other _ (by have := (hO.lt g hg).1; have := obj_lt hC5.out; show g ≠ v.heap.size; omega)
    obtain ⟨p7, cap7, hv7, hrow7⟩ := hO7.row
    rw [hll] at hv7 hrow7
    obtain ⟨rfl, rfl⟩ : p = p7 ∧ cap = cap7 := by injection hv7 with h1 h2 h3; exact ⟨h1, h3⟩
    have b0 : (w4.setCell ⟨v.heap.size, 2, none⟩ (.slice p n cap)).cell? ⟨v.heap.size, 0, none⟩ = some (.int .i64 E) := obj_cell hC7 rfl
    have b1 : (w4.setCell ⟨v.heap.size, 2, none⟩ (.slice p n cap)).cell? ⟨v.heap.size, 1, none⟩ = some (.int .i64 V) := obj_cell hC7 rfl
    have b2 : (w4.setCell ⟨v.heap.size, 2, none⟩ (.slice p n cap)).cell? ⟨v.heap.size, 2, none⟩ = some (.slice p n cap) := obj_cell hC7 rfl
    have cM := mayReply_any ⟨E, V, (List.range n).map (idAt (bl s))⟩ p cap (w4.setCell ⟨v.heap.size, 2, none⟩ (.slice p n cap)) (by show ZRow _ p ((List.range n).map (idAt (bl s))).length _; rw [hll]; exact hrow7) (by show ((List.range n).map (idAt (bl s))).length ≤ _; omega)
    unfold repArr at cM
    simp only [hll] at cM
    replace hC6 := Lib.hid hC6
    replace hC7 := Lib.hid hC7
    replace hA6 := Lib.hid hA6
    replace hA7 := Lib.hid hA7
    replace hO := Lib.hid hO
    replace hO7 := Lib.hid hO7
    replace hrow := Lib.hid hrow
    replace hrow7 := Lib.hid hrow7
    replace hB4 := Lib.hid hB4
    replace hll := Lib.hid hll
    cases hm : mayP ⟨E, V, (List.range n).map (idAt (bl s))⟩ with
    | false =>
      have hR : takeP (bl s) = none := takeP_none (fun h => by rw [htold.out, hm] at h; exact absurd h.2.2 (by decide))
      rw [hm] at cM
      replace cM := Lib.hid cM
      replace hR := Lib.hid hR
      replace hm := Lib.hid hm
      go_wp2_with fail
      with_reducible refine cM.out.mono ?_
      rintro e w8 ⟨rfl, hB8⟩
      have hs7 := hA7.out.size
      have hbx8 := (hB8.block B (Nat.lt_of_lt_of_le hBb hs7)).trans ((hA7.out.block B hBb).trans hbx.out)
      have hBB8 : Below B w w8 := hB0.out.trans ((hA7.out.mono (Nat.le_of_lt hBb)).trans (hB8.mono (Nat.le_trans (Nat.le_of_lt hBb) hs7)))
      replace hbx8 := Lib.hid hbx8
      replace hBB8 := Lib.hid hBB8
      replace hB8 := Lib.hid hB8
      go_wp2_with (first | (refine wpList_store_row rfl 40 _ _ rfl B _ rfl rfl 40 _ hbx8.out (by kernel_rfl) rfl (by simp [Value.oneCell']) ?_))
      (try simp only [Exit.inBlock, Exit.then])
      refine bodyPost_ret (results_take17 _ _ _ _ _ rfl (setRow_heap _ _ _ _ _ _ hbx8.out) (by kernel_rfl)) rfl ?_
      exact ⟨by rw [hR.out]; rfl, below_setRow hBB8.out (Nat.le_refl _) _⟩
    | true =>
      have hR : takeP (bl s) = some ⟨E, V, (List.range n).map (idAt (bl s))⟩ := by rw [takeP_some ⟨by omega, by rw [hnc.out]; omega, by rw [htold.out]; exact hm⟩, htold.out]
      rw [hm] at cM
      replace cM := Lib.hid cM
      replace hR := Lib.hid hR
      replace hm := Lib.hid hm
      go_wp2_with fail
      with_reducible refine cM.out.mono ?_
      rintro e w8 ⟨rfl, hB8⟩
      have hs7 := hA7.out.size
      have hbx8 := (hB8.block B (Nat.lt_of_lt_of_le hBb hs7)).trans ((hA7.out.block B hBb).trans hbx.out)
      have hC8 := (hB8.block _ (obj_lt hC7.out)).trans hC7.out
      have c0 : w8.cell? ⟨v.heap.size, 0, none⟩ = some (.int .i64 E) := obj_cell hC8 rfl
      have c1 : w8.cell? ⟨v.heap.size, 1, none⟩ = some (.int .i64 V) := obj_cell hC8 rfl
      have c2 : w8.cell? ⟨v.heap.size, 2, none⟩ = some (.slice p n cap) := obj_cell hC8 rfl
      have hrow8 := hrow7.out.kept hB8
      have hBB8 : Below B w w8 := hB0.out.trans ((hA7.out.mono (Nat.le_of_lt hBb)).trans (hB8.mono (Nat.le_trans (Nat.le_of_lt hBb) hs7)))
      replace hbx8 := Lib.hid hbx8
      replace hBB8 := Lib.hid hBB8
      replace hB8 := Lib.hid hB8
      replace hC8 := Lib.hid hC8
      replace hrow8 := Lib.hid hrow8
      go_wp2_with (first | (refine wpList_store_row rfl 40 _ _ rfl B _ rfl rfl 40 _ hbx8.out (by kernel_rfl) rfl (by simp [Value.oneCell']) ?_))
      (try simp only [Exit.inBlock, Exit.then])
      refine bodyPost_ret (results_take17 _ _ _ _ _ rfl (setRow_heap _ _ _ _ _ _ hbx8.out) (by kernel_rfl)) rfl ?_
      refine ⟨?_, below_setRow hBB8.out (Nat.le_refl _) _⟩
      rw [hR.out]
      refine ⟨p, cap, by unfold repArr; simp only [hll.out]; rfl, ?_⟩
      show ZRow _ p ((List.range n).map (idAt (bl s))).length ((List.range n).map (idAt (bl s)))
      rw [hll.out]
      exact hrow8.out.setRow B _ (fun a e => by subst e; have := (hO7.out.lt a.block rfl).1; have := obj_lt hC5.out; omega)
  · have hszz : ((s3.size : Int) != (n : Int) * 4) = true := by simp; omega
    have hR : takeP (bl s) = none := takeP_none (fun h => by have := h.2.1; rw [hnc.out] at this; omega)
    replace hR := Lib.hid hR
    replace hC5 := Lib.hid hC5
    replace hA5 := Lib.hid hA5
    go_wp2_with (first | (refine wpList_store_row rfl 40 _ _ rfl B _ rfl rfl 40 _ hbx5.out (by kernel_rfl) rfl (by simp [Value.oneCell']) ?_))
    (try simp only [Exit.inBlock, Exit.then])
    refine bodyPost_ret (results_take17 _ _ _ _ _ rfl (setRow_heap _ _ _ _ _ _ hbx5.out) (by kernel_rfl)) rfl ?_
    exact ⟨by rw [hR.out]; rfl, below_setRow hBB5.out (Nat.le_refl _) _⟩
/-- the program's replies keep to what they must -/
theorem thePI : PI := ⟨fun r p cap w hz hn => putP_any r p cap w hz hn, fun s w hs => (takeP_any s w hs).mono fun e w' h => ⟨by
    have h1 := h.1
    unfold TookP at h1
    exact h1, h.2⟩⟩
end Go.Proofs.Ytgcliallkfnhaaa
