/- Operations that came in; the law's large.
  A ledger read from its Text goes on as the one it is of: the law's walk over any ledger that keeps its contracts. -/
import Derived.Test.YtghebijikdnikaaLG8
namespace Go.Proofs.Ytghebijikdnikaa
open Go.RowKit
set_option linter.unusedVariables false

/-- a row of operations that is read -/
def OpsRow (w : World) (p : Option Addr) (len : Nat) (ops : List LOp) : Prop :=
  ops.length = len ∧ len ≤ 140737488351232 ∧ (∀ x ∈ ops, x.Ok w ∧ x.len ≤ 140737488351232) ∧ (len = 0 ∨ ∃ b off, p = some ⟨b, off, none⟩ ∧ b < w.heap.size ∧ ∀ i x, ops[i]? = some x → ∀ j, j < 7 → w.cell? ⟨b, off + i * 7 + j, none⟩ = x.arr[j]?)
theorem LOp.Ok.kept {x : LOp} {w w' : World} (h : x.Ok w) (hb : Below w.heap.size w w') : x.Ok w' := ⟨h.a, h.g, h.b.kept hb⟩
theorem OpsRow.kept {w w' : World} {p : Option Addr} {len : Nat} {ops : List LOp} (h : OpsRow w p len ops) (hb : Below w.heap.size w w') : OpsRow w' p len ops := by
  obtain ⟨h1, h2, h3, h4⟩ := h
  refine ⟨h1, h2, fun x hx => ⟨(h3 x hx).1.kept hb, (h3 x hx).2⟩, h4.imp id ?_⟩
  rintro ⟨b, off, rfl, hlt, hc⟩
  exact ⟨b, off, rfl, Nat.lt_of_lt_of_le hlt hb.size, fun i x hx j hj => (hb.cell (p := ⟨b, off + i * 7 + j, none⟩) hlt).trans (hc i x hx j hj)⟩
/-- are there too many? -/
def manyO (ops : List LOp) : Bool := ops.any (fun x => decide (30 < x.len)) || decide (40 < ops.length)
set_option maxHeartbeats 2000000 in
set_option maxRecDepth 100000 in
theorem large_any (p : Option Addr) (len cap : Nat) (ops : List LOp) (w : World) (h : OpsRow w p len ops) :
    Calls Try.prog 8 #[.slice p len cap] w fun e w' => e = .returned (.bool (manyO ops)) ∧ w = w' := by
  obtain ⟨h1, h2, h3, h4⟩ := h
  go_enter Try.func8, Try.ntmps8
  go_wp2_with fail
  go_loop [6] (fun i => ∃ k : Nat, k ≤ len ∧ i = .int .i64 k ∧ Hid (∀ j x, j < k → ops[j]? = some x → x.len ≤ 30)) (fun i => len - (intOf i).toNat)
  case atStart => exact ⟨0, by omega, rfl, Lib.hid (fun j x h => by omega)⟩
  case round =>
    obtain ⟨k, hk, rfl, hA⟩ := hrel
    by_cases hkn : k < len
    · have kz : (k : Int) < (len : Int) := by omega
      obtain ⟨b, off, rfl, hblt, hcell⟩ := h4.resolve_left (by omega)
      obtain ⟨x, hx⟩ : ∃ x, ops[k]? = some x := ⟨_, List.getElem?_eq_getElem (by omega)⟩
      have c6 : w.cell? ⟨b, off + k * 7 + 6, none⟩ = some (.slice x.p x.len x.cap) := hcell k x hx 6 (by omega)
      clear hcell h4
      by_cases h30 : 30 < x.len
      · have hz : (30 : Int) < (x.len : Int) := by omega
        have hm : manyO ops = true := by
          unfold manyO
          rw [Bool.or_eq_true]
          exact .inl (List.any_eq_true.2 ⟨x, List.mem_of_getElem? hx, decide_eq_true h30⟩)
        replace hm := Lib.hid hm
        go_wp2_with fail
        go_ret
        exact ⟨by rw [hm.out]; rfl, rfl⟩
      · have hz : ¬ (30 : Int) < (x.len : Int) := by omega
        have hA2 : Hid (∀ j x, j < k + 1 → ops[j]? = some x → x.len ≤ 30) := Lib.hid fun j y hj hy => by
          by_cases e : j = k
          · subst e; rw [hx] at hy; injection hy with hy; subst hy; omega
          · exact hA.out j y (by omega) hy
        go_wp2_with fail
        go_round
        case rel => exact ⟨k + 1, by omega, by go_num, hA2⟩
        case measure => simp [intOf]; omega
    · obtain rfl : k = len := by omega
      have kz : ¬ (k : Int) < (k : Int) := by omega
      have hany : ops.any (fun x => decide (30 < x.len)) = false := by
        rw [List.any_eq_false]
        intro x hx
        obtain ⟨j, hj⟩ := List.getElem?_of_mem hx
        have := hA.out j x (by have := (List.getElem?_eq_some_iff.1 hj).1; omega) hj
        simp
        omega
      have hm : manyO ops = decide ((40 : Int) < (k : Int)) := by
        unfold manyO
        rw [hany, h1, Bool.false_or]
        exact decide_eq_decide.2 (by omega)
      replace hm := Lib.hid hm
      replace hany := Lib.hid hany
      go_wp2_with fail
      go_ret
      exact ⟨by rw [hm.out]; rfl, rfl⟩
end Go.Proofs.Ytghebijikdnikaa
namespace Go.Proofs.Ytghebijikdnikaa
open Go.RowKit
set_option linter.unusedVariables false

/-- operations, one after the other -/
def LM.dos (l : LM) (ops : List LOp) : LM := ops.foldl (fun l x => (l.doo x).2) l
theorem dos_succ (l : LM) (ops : List LOp) (k : Nat) (x : LOp) (h : ops[k]? = some x) : l.dos (ops.take (k + 1)) = ((l.dos (ops.take k)).doo x).2 := by
  obtain ⟨hk, he⟩ := List.getElem?_eq_some_iff.1 h
  unfold LM.dos
  rw [List.take_succ_eq_append_getElem hk, List.foldl_append, he]
  rfl
theorem dos_good {l : LM} (h : l.Good) : ∀ ops : List LOp, (l.dos ops).Good := fun ops => by
  unfold LM.dos
  induction ops generalizing l with
  | nil => exact h
  | cons x r ih => exact ih (doo_good h x).1
/-- an operation's cells, where it lies -/
def OpAt (w : World) (b off : Nat) (x : LOp) : Prop := w.cell? ⟨b, off, none⟩ = some (.int .i64 x.Do) ∧ w.cell? ⟨b, off + 1, none⟩ = some (.int .i64 x.m) ∧ w.cell? ⟨b, off + 2, none⟩ = some (.int .i64 x.c) ∧ w.cell? ⟨b, off + 3, none⟩ = some (.int .i64 x.v) ∧ w.cell? ⟨b, off + 4, none⟩ = some (.int .i64 x.a) ∧ w.cell? ⟨b, off + 5, none⟩ = some (.int .i64 x.g) ∧ w.cell? ⟨b, off + 6, none⟩ = some (.slice x.p x.len x.cap)
theorem OpsRow.at {w : World} {p : Option Addr} {len : Nat} {ops : List LOp} (h : OpsRow w p len ops) {k : Nat} {x : LOp} (hx : ops[k]? = some x) : ∃ b off, p = some ⟨b, off, none⟩ ∧ OpAt w b (off + k * 7) x := by
  have hk := (List.getElem?_eq_some_iff.1 hx).1
  obtain ⟨h1, _, _, h4⟩ := h
  obtain ⟨b, off, rfl, _, hc⟩ := h4.resolve_left (by omega)
  exact ⟨b, off, rfl, hc k x hx 0 (by omega), hc k x hx 1 (by omega), hc k x hx 2 (by omega), hc k x hx 3 (by omega), hc k x hx 4 (by omega), hc k x hx 5 (by omega), hc k x hx 6 (by omega)⟩
theorem many_len {ops : List LOp} (h : manyO ops = false) : ops.length ≤ 40 := by
  unfold manyO at h
  rw [Bool.or_eq_false_iff] at h
  simpa using h.2
theorem many_one {ops : List LOp} (h : manyO ops = false) {x : LOp} (hx : x ∈ ops) : x.len ≤ 30 := by
  unfold manyO at h
  rw [Bool.or_eq_false_iff] at h
  have := List.any_eq_false.1 h.1 x hx
  simpa using this
/-- one more block stays: it has been made since -/
theorem Apart.boxed {G : Nat → Prop} {X Y : (Nat → Prop) → World → Prop} {w w' : World} (lX : Live X) (lY : Live Y) (h : Apart G X Y w) (hb : Below w.heap.size w w') (hs : w'.heap.size = w.heap.size + 1) : Apart (fun j => G j ∨ j = w.heap.size) X Y w' := by
  obtain ⟨PF, RF, hX, hY, h1, h2⟩ := h
  have k := Kp.of_below (F := fun _ => False) hb
  exact ⟨PF, RF, lX.kept hX k (fun _ _ _ h => h), lY.kept hY k (fun _ _ _ h => h), fun j hj => ⟨(h1 j hj).1, fun e => e.elim (h1 j hj).2.1 (fun e => by have := (h1 j hj).2.2; omega), by have := (h1 j hj).2.2; omega⟩, fun j hj => ⟨fun e => e.elim (h2 j hj).1 (fun e => by have := (h2 j hj).2; omega), by have := (h2 j hj).2; omega⟩⟩
theorem Apart.less {G G' : Nat → Prop} {X Y : (Nat → Prop) → World → Prop} {w : World} (h : Apart G X Y w) (hG : ∀ j, G' j → G j) : Apart G' X Y w := by
  obtain ⟨PF, RF, hX, hY, h1, h2⟩ := h
  exact ⟨PF, RF, hX, hY, fun j hj => ⟨(h1 j hj).1, fun e => (h1 j hj).2.1 (hG j e), (h1 j hj).2.2⟩, fun j hj => ⟨fun e => (h2 j hj).1 (hG j e), (h2 j hj).2⟩⟩
/-- the law's first way: what it holds -/
structure OSt (I : LI) (w0 : World) (b : Nat) (l : LM) (wr : World) : Prop where
  led : I.IsL (fun j => w0.heap.size ≤ j) wr b l
  good : l.Good
  blw : Below w0.heap.size w0 wr

set_option maxHeartbeats 8000000 in
set_option maxRecDepth 100000 in
theorem ledgerOn_any (I : LI) (hA : ∀ w, Calls Try.prog 7 #[] w fun e w' => e = .returned (.bool true) ∧ Below w.heap.size w w') (nm nc : Int) (p q : Option Addr) (len cap len2 cap2 : Nat) (ops more : List LOp) (w : World)
    (ho : OpsRow w p len ops) (hm : OpsRow w q len2 more) :
    Calls Try.prog 6 #[.int .i64 nm, .int .i64 nc, .slice p len cap, .slice q len2 cap2] w fun e w' => e = .returned (.bool true) ∧ Below w.heap.size w w' := by
  replace hA := Lib.hid hA
  go_enter Try.func6, Try.ntmps6
  go_upto_region 3 with (first | (go_at_call 7; (refine (hA.out _).mono ?_); rintro e w1 ⟨rfl, hB1⟩))
  have ho1 := ho.kept hB1
  have hm1 := hm.kept hB1
  have cL1 := large_any p len cap ops w1 ho1
  have cL2 := large_any q len2 cap2 more w1 hm1
  replace ho := Lib.hid ho
  replace hm := Lib.hid hm
  replace hB1 := Lib.hid hB1
  replace ho1 := Lib.hid ho1
  replace hm1 := Lib.hid hm1
  cases hc1 : manyO ops with
  | true =>
    rw [hc1] at cL1
    replace cL1 := Lib.hid cL1
    replace cL2 := Lib.hid cL2
    go_wp2_with (first | (go_at_call 8; (with_reducible refine cL1.out.mono ?_); rintro e z ⟨rfl, rfl⟩))
    go_ret
    exact ⟨rfl, hB1.out⟩
  | false =>
  rw [hc1] at cL1
  cases hc2 : manyO more with
  | true =>
    rw [hc2] at cL2
    replace cL1 := Lib.hid cL1
    replace cL2 := Lib.hid cL2
    go_wp2_with (first | (go_at_call 8; (with_reducible refine cL1.out.mono ?_); rintro e z ⟨rfl, rfl⟩) | (go_at_call 8; (with_reducible refine cL2.out.mono ?_); rintro e z ⟨rfl, rfl⟩))
    go_ret
    exact ⟨rfl, hB1.out⟩
  | false =>
  rw [hc2] at cL2
  replace cL1 := Lib.hid cL1
  replace cL2 := Lib.hid cL2
  have cN := Lib.hid (I.new nm nc w1)
  have hl40 : len ≤ 40 := by have := many_len hc1; have := ho1.out.1; omega
  have hm40 : len2 ≤ 40 := by have := many_len hc2; have := hm1.out.1; omega
  go_upto_region 5 with (first | (go_at_call 8; (with_reducible refine cL1.out.mono ?_); rintro e z ⟨rfl, rfl⟩) | (go_at_call 8; (with_reducible refine cL2.out.mono ?_); rintro e z ⟨rfl, rfl⟩))
  go_wp2_with fail
  with_reducible refine cN.out.mono ?_
  rintro e w2 ⟨hy, hn, hB2⟩
  have hB2' : Below w.heap.size w w2 := hB1.out.trans (hB2.mono hB1.out.size)
  cases hok : newOk nm nc with
  | false =>
    have hn2 := hn hok
    subst hn2
    replace hB2 := Lib.hid hB2
    replace hB2' := Lib.hid hB2'
    clear hy hn
    go_wp2_with fail
    go_ret
    exact ⟨rfl, hB2'.out⟩
  | true =>
    obtain ⟨b, rfl, hL⟩ := hy hok
    clear hy hn
    have hgood : (LM.new nm.toNat nc.toNat).Good := by
      unfold newOk at hok
      have h := of_decide_eq_true hok
      obtain ⟨h1, h2⟩ := new_ok (nm := nm.toNat) (nc := nc.toNat) (by omega) (by omega)
      exact ⟨h1, h2⟩
    have hS0 : OSt I w1 b ((LM.new nm.toNat nc.toNat).dos (ops.take 0)) w2 := ⟨hL, hgood, hB2⟩
    generalize LM.new nm.toNat nc.toNat = l0 at *
    replace hS0 := Lib.hid hS0
    replace hL := Lib.hid hL
    replace hB2 := Lib.hid hB2
    replace hB2' := Lib.hid hB2'
    replace hgood := Lib.hid hgood
    go_wp2_with fail
    go_loopw [35] (fun i wr => ∃ k : Nat, k ≤ len ∧ i = .int .i64 (k : Int) ∧ Hid (OSt I w1 b (l0.dos (ops.take k)) wr)) (fun i _ => len - (intOf i).toNat)
    case atStart => exact ⟨0, by omega, rfl, hS0⟩
    case round =>
      obtain ⟨k, hk, rfl, hS⟩ := hrel
      have hT := hS.out
      by_cases hkn : k < len
      · have kz : (k : Int) < (len : Int) := by omega
        obtain ⟨x, hx⟩ : ∃ x, ops[k]? = some x := ⟨_, List.getElem?_eq_getElem (by have := ho1.out.1; omega)⟩
        have hrow := ho1.out.kept hT.blw
        obtain ⟨rb, off, rfl, x0, x1, x2, x3, x4, x5, x6⟩ := hrow.at hx
        have hxok := (hrow.2.2.1 x (List.mem_of_getElem? hx)).1
        have hxl : x.len ≤ 30 := many_one hc1 (List.mem_of_getElem? hx)
        have hnw := heap_alloc_new wr (.cells #[.int .i64 0, .int .i64 0, .int .i64 0, .int .i64 0, .int .i64 0, .int .i64 0, .slice none 0 0] 34)
        have hobj := setRow_heap _ _ _ x.arr _ _ hnw
        have hWB : Below wr.heap.size wr ((wr.alloc (.cells #[.int .i64 0, .int .i64 0, .int .i64 0, .int .i64 0, .int .i64 0, .int .i64 0, .slice none 0 0] 34)).setRow wr.heap.size x.arr) := below_setRow ((Below.refl _ _).alloc (Nat.le_refl _) _) (Nat.le_refl _) _
        have hS2 : OSt I w1 b (l0.dos (ops.take k)) ((wr.alloc (.cells #[.int .i64 0, .int .i64 0, .int .i64 0, .int .i64 0, .int .i64 0, .int .i64 0, .slice none 0 0] 34)).setRow wr.heap.size x.arr) := ⟨(I.live b _).kept hT.led (Kp.of_below (F := fun _ => False) hWB) (fun _ _ _ h => h), hT.good, hT.blw.trans (hWB.mono hT.blw.size)⟩
        have cD := do_any I _ b _ x _ hS2.led hS2.good (hxok.kept hWB) hxl (fun i hi => by have := hS2.blw.size; omega)
        have hds := dos_succ l0 ops k x hx
        unfold LOp.arr at *
        obtain ⟨y0, y1, y2, y3, y4, y5, y6⟩ : OpAt _ wr.heap.size 0 x := ⟨obj_cell hobj rfl, obj_cell hobj rfl, obj_cell hobj rfl, obj_cell hobj rfl, obj_cell hobj rfl, obj_cell hobj rfl, obj_cell hobj rfl⟩
        replace hnw := Lib.hid hnw
        replace hobj := Lib.hid hobj
        replace hWB := Lib.hid hWB
        replace hS2 := Lib.hid hS2
        replace cD := Lib.hid cD
        replace hds := Lib.hid hds
        replace hT := Lib.hid hT
        replace hrow := Lib.hid hrow
        replace hxok := Lib.hid hxok
        go_wp2_with (first | (refine wpList_store_row rfl 34 _ _ rfl wr.heap.size _ rfl rfl 34 _ hnw.out (by kernel_rfl) rfl (by simp [Value.oneCell']) ?_))
        with_reducible refine cD.out.mono ?_
        rintro e w5 ⟨rfl, hL5, hK5⟩
        have hS5 : OSt I w1 b (l0.dos (ops.take (k + 1))) w5 := by
          rw [hds.out]
          exact ⟨hL5, (doo_good hS2.out.good x).1, hS2.out.blw.trans (hK5.below (by have := hS2.out.blw.size; omega) (fun j hj h => by omega))⟩
        replace hS5 := Lib.hid hS5
        replace hL5 := Lib.hid hL5
        replace hK5 := Lib.hid hK5
        go_wp2_with fail
        go_roundw
        case rel => exact ⟨k + 1, by omega, by go_num, hS5⟩
        case measure => simp [intOf]; omega
      · obtain rfl : k = len := by omega
        have kz : ¬ (k : Int) < (k : Int) := by omega
        have hlg := hT.good
        generalize l0.dos (ops.take k) = l at *
        have cT := I.text hT.led hlg
        have hrt := read_text hlg
        have htl := text_length l
        have hnm := hlg.ok.nm
        have hnc := hlg.ok.nc
        have hmul : 8 * l.nc * (1 + l.nm) ≤ 8 * 8 * 17 := Nat.mul_le_mul (by omega) (by omega)
        have hmk : bl (⟨l.text.toArray⟩ : ByteArray) = l.text := bl_mk _
        have hsz : (⟨l.text.toArray⟩ : ByteArray).size ≤ 100000 := by rw [mk_size, htl]; omega
        have cR := fun w => I.read (⟨l.text.toArray⟩ : ByteArray) w hsz
        rw [hmk] at cR
        unfold sv at cT
        generalize (⟨l.text.toArray⟩ : ByteArray) = S at *
        replace cT := Lib.hid cT
        replace cR := Lib.hid cR
        replace hT := Lib.hid hT
        replace hrt := Lib.hid hrt
        replace htl := Lib.hid htl
        replace hlg := Lib.hid hlg
        replace hmk := Lib.hid hmk
        go_wp2_with fail
        with_reducible refine cT.out.mono ?_
        rintro e w5 ⟨rfl, hB5⟩
        replace hB5 := Lib.hid hB5
        go_wp2_with fail
        with_reducible refine (cR.out _).mono ?_
        rintro e w6 ⟨hy, hn, hB6⟩
        obtain ⟨b2, rfl, hL6⟩ := hy l hrt.out
        clear hy hn
        have hw5 : Below w1.heap.size w1 w5 := hT.out.blw.trans (hB5.out.mono hT.out.blw.size)
        have hw6 : Below w1.heap.size w1 w6 := hw5.trans (hB6.mono hw5.size)
        have hAp : Apart (fun j => j < w1.heap.size) (fun P w => I.IsL P w b (l.dos (more.take 0))) (fun P w => I.IsL P w b2 (l.dos (more.take 0))) w6 := by
          have k5 := Kp.of_below (F := fun _ => False) hB5.out
          have k6 := Kp.of_below (F := fun _ => False) hB6
          have a5 := (I.live b l).kept hT.out.led k5 (fun _ _ _ h => h)
          have a5' := (I.live b l).weak a5 (Q := fun j => w1.heap.size ≤ j ∧ j < w5.heap.size) (fun j hj h => ⟨h, hj⟩)
          have a6 := (I.live b l).kept a5' k6 (fun _ _ _ h => h)
          have c6 := (I.live b2 l).weak hL6 (Q := fun j => w5.heap.size ≤ j ∧ j < w6.heap.size) (fun j hj h => ⟨h, hj⟩)
          exact ⟨_, _, a6, c6, fun j hj => ⟨by omega, by omega, by have := hB6.size; omega⟩, fun j hj => ⟨by have := hw5.size; omega, hj.2⟩⟩
        have hg0 : (l.dos (more.take 0)).Good := hlg.out
        replace hw5 := Lib.hid hw5
        replace hB6 := Lib.hid hB6
        replace hL6 := Lib.hid hL6
        have hS6 := Lib.hid (And.intro hAp (And.intro hg0 hw6))
        replace hAp := Lib.hid hAp
        replace hg0 := Lib.hid hg0
        replace hw6 := Lib.hid hw6
        go_wp2_with fail
        go_loopw [57] (fun i wr => ∃ k : Nat, k ≤ len2 ∧ i = .int .i64 (k : Int) ∧ Hid (Apart (fun j => j < w1.heap.size) (fun P w => I.IsL P w b (l.dos (more.take k))) (fun P w => I.IsL P w b2 (l.dos (more.take k))) wr ∧ (l.dos (more.take k)).Good ∧ Below w1.heap.size w1 wr)) (fun i _ => len2 - (intOf i).toNat)
        case atStart => exact ⟨0, by omega, rfl, hS6⟩
        case round =>
          obtain ⟨k2, hk2, rfl, hS2⟩ := hrel
          obtain ⟨hAp2, hg2, hb2⟩ := hS2.out
          by_cases hkn2 : k2 < len2
          · have kz2 : (k2 : Int) < (len2 : Int) := by omega
            obtain ⟨x, hx⟩ : ∃ x, more[k2]? = some x := ⟨_, List.getElem?_eq_getElem (by have := hm1.out.1; omega)⟩
            have hrow := hm1.out.kept hb2
            obtain ⟨rb, off, rfl, x0, x1, x2, x3, x4, x5, x6⟩ := hrow.at hx
            have hxl : x.len ≤ 30 := many_one hc2 (List.mem_of_getElem? hx)
            have hxok : ∀ W', Below w1.heap.size w1 W' → x.Ok W' := fun W' h => ((hm1.out.kept h).2.2.1 x (List.mem_of_getElem? hx)).1
            have hnw := heap_alloc_new wr (.cells #[.int .i64 0, .int .i64 0, .int .i64 0, .int .i64 0, .int .i64 0, .int .i64 0, .slice none 0 0] 34)
            have hobj := setRow_heap _ _ _ x.arr _ _ hnw
            have hWB : Below wr.heap.size wr ((wr.alloc (.cells #[.int .i64 0, .int .i64 0, .int .i64 0, .int .i64 0, .int .i64 0, .int .i64 0, .slice none 0 0] 34)).setRow wr.heap.size x.arr) := below_setRow ((Below.refl _ _).alloc (Nat.le_refl _) _) (Nat.le_refl _) _
            have hWs : ((wr.alloc (.cells #[.int .i64 0, .int .i64 0, .int .i64 0, .int .i64 0, .int .i64 0, .int .i64 0, .slice none 0 0] 34)).setRow wr.heap.size x.arr).heap.size = wr.heap.size + 1 := by simp [World.setRow]
            have hds := dos_succ l more k2 x hx
            have hgr := (doo_good hg2 x).1
            generalize hlk : l.dos (more.take k2) = lk at *
            generalize hrr : lk.doo x = r at *
            have hApW := Apart.boxed (I.live b lk) (I.live b2 lk) hAp2 hWB hWs
            have hBW := hb2.trans (hWB.mono hb2.size)
            have cD1 : ∀ W', Apart (fun j => j < w1.heap.size ∨ j = wr.heap.size) (fun P w => I.IsL P w b lk) (fun P w => I.IsL P w b2 lk) W' → Below w1.heap.size w1 W' → wr.heap.size < W'.heap.size →
                Calls Try.prog 11 #[.pointer (some ⟨b, 0, none⟩), .agg x.arr] W' fun e w' => e = .returned (.int .i64 r.1) ∧ Apart (fun j => j < w1.heap.size ∨ j = wr.heap.size) (fun P w => I.IsL P w b r.2) (fun P w => I.IsL P w b2 lk) w' ∧ Kp (fun j => ¬ (j < w1.heap.size ∨ j = wr.heap.size)) W' w' := fun W' h hb hs =>
              (Apart.call (α := Unit) (φ := fun _ e => e = .returned (.int .i64 r.1)) (X' := fun _ P w => I.IsL P w b r.2) (I.live b lk) (fun _ => I.live b r.2) (I.live b2 lk) (fun j hj => by have := hb.size; omega) h
                (fun P hX hP => (do_any I P b lk x W' hX hg2 (hxok W' hb) hxl hP).mono fun e w' h3 => by rw [hrr] at h3; exact ⟨(), h3.1, h3.2.1, h3.2.2⟩)).mono fun e w' ⟨_, h1, h2, h3⟩ => ⟨h1, h2, h3⟩
            have cD2 : ∀ W', Apart (fun j => j < w1.heap.size ∨ j = wr.heap.size) (fun P w => I.IsL P w b r.2) (fun P w => I.IsL P w b2 lk) W' → Below w1.heap.size w1 W' → wr.heap.size < W'.heap.size →
                Calls Try.prog 11 #[.pointer (some ⟨b2, 0, none⟩), .agg x.arr] W' fun e w' => e = .returned (.int .i64 r.1) ∧ Apart (fun j => j < w1.heap.size ∨ j = wr.heap.size) (fun P w => I.IsL P w b r.2) (fun P w => I.IsL P w b2 r.2) w' ∧ Kp (fun j => ¬ (j < w1.heap.size ∨ j = wr.heap.size)) W' w' := fun W' h hb hs =>
              (Apart.call (α := Unit) (φ := fun _ e => e = .returned (.int .i64 r.1)) (X' := fun _ P w => I.IsL P w b2 r.2) (I.live b2 lk) (fun _ => I.live b2 r.2) (I.live b r.2) (fun j hj => by have := hb.size; omega) h.swap
                (fun P hX hP => (do_any I P b2 lk x W' hX hg2 (hxok W' hb) hxl hP).mono fun e w' h3 => by rw [hrr] at h3; exact ⟨(), h3.1, h3.2.1, h3.2.2⟩)).mono fun e w' ⟨_, h1, h2, h3⟩ => ⟨h1, h2.swap, h3⟩
            have cT1 : ∀ W', Apart (fun j => j < w1.heap.size ∨ j = wr.heap.size) (fun P w => I.IsL P w b r.2) (fun P w => I.IsL P w b2 r.2) W' → Calls Try.prog 16 #[.pointer (some ⟨b, 0, none⟩)] W' fun e w' => e = .returned (.string ⟨r.2.text.toArray⟩) ∧ Below W'.heap.size W' w' := fun W' h => by
              obtain ⟨PF, RF, hX, hY, _⟩ := h
              exact I.text hX hgr
            have cT2 : ∀ W', Apart (fun j => j < w1.heap.size ∨ j = wr.heap.size) (fun P w => I.IsL P w b r.2) (fun P w => I.IsL P w b2 r.2) W' → Calls Try.prog 16 #[.pointer (some ⟨b2, 0, none⟩)] W' fun e w' => e = .returned (.string ⟨r.2.text.toArray⟩) ∧ Below W'.heap.size W' w' := fun W' h => by
              obtain ⟨PF, RF, hX, hY, _⟩ := h
              exact I.text hY hgr
            have hstep : ∀ (W W' : World), Below w1.heap.size w1 W → wr.heap.size < W.heap.size → OpAt W wr.heap.size 0 x → Kp (fun j => ¬ (j < w1.heap.size ∨ j = wr.heap.size)) W W' → Below w1.heap.size w1 W' ∧ wr.heap.size < W'.heap.size ∧ OpAt W' wr.heap.size 0 x := fun W W' h1 h2 h3 hk =>
              ⟨h1.trans (hk.below h1.size (fun j hj h => h (.inl hj))), Nat.lt_of_lt_of_le h2 hk.size, hk.cell h3.1 (fun h => h (.inr rfl)), hk.cell h3.2.1 (fun h => h (.inr rfl)), hk.cell h3.2.2.1 (fun h => h (.inr rfl)), hk.cell h3.2.2.2.1 (fun h => h (.inr rfl)), hk.cell h3.2.2.2.2.1 (fun h => h (.inr rfl)), hk.cell h3.2.2.2.2.2.1 (fun h => h (.inr rfl)), hk.cell h3.2.2.2.2.2.2 (fun h => h (.inr rfl))⟩
            have hOp : OpAt ((wr.alloc (.cells #[.int .i64 0, .int .i64 0, .int .i64 0, .int .i64 0, .int .i64 0, .int .i64 0, .slice none 0 0] 34)).setRow wr.heap.size x.arr) wr.heap.size 0 x := ⟨obj_cell hobj rfl, obj_cell hobj rfl, obj_cell hobj rfl, obj_cell hobj rfl, obj_cell hobj rfl, obj_cell hobj rfl, obj_cell hobj rfl⟩
            generalize (⟨r.2.text.toArray⟩ : ByteArray) = T at *
            unfold LOp.arr at *
            go_upto_region 19 with (first | (refine wpList_store_row rfl 34 _ _ rfl wr.heap.size _ rfl rfl 34 _ hnw (by kernel_rfl) rfl (by simp [Value.oneCell']) ?_))
            generalize (wr.alloc (.cells #[.int .i64 0, .int .i64 0, .int .i64 0, .int .i64 0, .int .i64 0, .int .i64 0, .slice none 0 0] 34)).setRow wr.heap.size #[.int .i64 x.Do, .int .i64 x.m, .int .i64 x.c, .int .i64 x.v, .int .i64 x.a, .int .i64 x.g, .slice x.p x.len x.cap] = W at *
            have hA0 := Lib.hid (Apart.below (I.live b lk) (I.live b2 lk) hApW ((Below.refl _ W).drew))
            have hB0 := Lib.hid (hBW.drew)
            have hl0 : wr.heap.size < W.drew.heap.size := by show wr.heap.size < W.heap.size; omega
            have hOq : Hid (OpAt W.drew wr.heap.size 0 x) := Lib.hid hOp
            have hRr := Lib.hid hds
            have hEnd : ∀ W', Apart (fun j => j < w1.heap.size ∨ j = wr.heap.size) (fun P w => I.IsL P w b r.2) (fun P w => I.IsL P w b2 r.2) W' → Below w1.heap.size w1 W' → Apart (fun j => j < w1.heap.size) (fun P w => I.IsL P w b (l.dos (more.take (k2 + 1)))) (fun P w => I.IsL P w b2 (l.dos (more.take (k2 + 1)))) W' ∧ (l.dos (more.take (k2 + 1))).Good ∧ Below w1.heap.size w1 W' := fun W' h1 h2 => by
              rw [hds]
              exact ⟨h1.less (fun j hj => .inl hj), hgr, h2⟩
            replace hEnd := Lib.hid hEnd
            replace cD1 := Lib.hid cD1
            replace cD2 := Lib.hid cD2
            replace cT1 := Lib.hid cT1
            replace cT2 := Lib.hid cT2
            replace hstep := Lib.hid hstep
            replace hds := Lib.hid hds
            replace hOp := Lib.hid hOp
            replace hApW := Lib.hid hApW
            replace hBW := Lib.hid hBW
            replace hAp2 := Lib.hid hAp2
            replace hg2 := Lib.hid hg2
            replace hgr := Lib.hid hgr
            replace hb2 := Lib.hid hb2
            replace hrow := Lib.hid hrow
            replace hxok := Lib.hid hxok
            replace hnw := Lib.hid hnw
            replace hobj := Lib.hid hobj
            replace hWB := Lib.hid hWB
            replace hWs := Lib.hid hWs
            replace hS2 := Lib.hid hS2
            replace hlk := Lib.hid hlk
            replace hrr := Lib.hid hrr
            (try simp only [Act.put])
            go_region_held3 (fun w' => w'.cell? ⟨wr.heap.size, 0, none⟩ = some (.int .i64 x.Do) ∧ w'.cell? ⟨wr.heap.size, 1, none⟩ = some (.int .i64 x.m) ∧ w'.cell? ⟨wr.heap.size, 2, none⟩ = some (.int .i64 x.c) ∧ w'.cell? ⟨wr.heap.size, 3, none⟩ = some (.int .i64 x.v) ∧ w'.cell? ⟨wr.heap.size, 4, none⟩ = some (.int .i64 x.a) ∧ w'.cell? ⟨wr.heap.size, 5, none⟩ = some (.int .i64 x.g) ∧ w'.cell? ⟨wr.heap.size, 6, none⟩ = some (.slice x.p x.len x.cap)) (exact hOq.out)
              (first
                | (go_at_call 11; (with_reducible refine (cD1.out _ hA0.out hB0.out hl0).mono ?_); rintro e wa ⟨rfl, hAa, hKa⟩; obtain ⟨hBa, hla, hOa⟩ := hstep.out _ _ hB0.out hl0 hOq.out hKa; replace hOq := Lib.hid hOa; replace hAa := Lib.hid hAa; replace hBa := Lib.hid hBa; replace hKa := Lib.hid hKa; clear hOa)
                | (go_at_call 11; (with_reducible refine (cD2.out _ hAa.out hBa.out hla).mono ?_); rintro e wb ⟨rfl, hAb, hKb⟩; obtain ⟨hBb, hlb, hOb⟩ := hstep.out _ _ hBa.out hla hOq.out hKb; replace hOq := Lib.hid hOb; replace hAb := Lib.hid hAb; replace hBb := Lib.hid hBb; replace hKb := Lib.hid hKb; clear hOb)
                | (go_at_call 16; (with_reducible refine (cT1.out _ hAb.out).mono ?_); rintro e wd ⟨rfl, hbd⟩; obtain ⟨hBd, hld, hOd⟩ := hstep.out _ _ hBb.out hlb hOq.out (Kp.of_below hbd); have hAd := Lib.hid (Apart.below (I.live b r.2) (I.live b2 r.2) hAb.out hbd); replace hOq := Lib.hid hOd; replace hBd := Lib.hid hBd; replace hbd := Lib.hid hbd; clear hOd)
                | (go_at_call 16; (with_reducible refine (cT2.out _ hAd.out).mono ?_); rintro e wf ⟨rfl, hbf⟩; obtain ⟨hBf, hlf, hOf⟩ := hstep.out _ _ hBd.out hld hOq.out (Kp.of_below hbf); have hAf := Lib.hid (Apart.below (I.live b r.2) (I.live b2 r.2) hAd.out hbf); replace hOq := Lib.hid hOf; replace hBf := Lib.hid hBf; replace hbf := Lib.hid hbf; clear hOf))
            have hS7 := Lib.hid (hEnd.out _ hAf.out hBf.out)
            go_wp2_with fail
            go_roundw
            case rel => exact ⟨k2 + 1, by omega, by go_num, hS7⟩
            case measure => simp [intOf]; omega
          · obtain rfl : k2 = len2 := by omega
            have kz2 : ¬ (k2 : Int) < (k2 : Int) := by omega
            have hfin : Below w.heap.size w wr := hB1.out.trans (hb2.mono hB1.out.size)
            replace hfin := Lib.hid hfin
            replace hb2 := Lib.hid hb2
            go_wp2_with fail
            go_ret
            exact ⟨rfl, hfin.out⟩
end Go.Proofs.Ytghebijikdnikaa
