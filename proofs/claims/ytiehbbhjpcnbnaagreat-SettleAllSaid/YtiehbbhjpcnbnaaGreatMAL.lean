/- Bytes laid behind a row; the contracts of textSize, appendRow.
  The contracts of takeAmount, takeRow.
  The contract of move: changes of a member's balances and of the nostros.
  The contracts of In, Out, Swap. -/
import Derived.Test.YtiehbbhjpcnbnaaGreatMAF
import Derived.Test.YtiehbbhjpcnbnaaGreatMAG
import Derived.Test.YtiehbbhjpcnbnaaGreatMAK
import Derived.Deep.RegionHeld3
import Derived.Deep.RegionLaw
import Derived.Deep.CutRange
import Derived.Deep.CutBlock
import Derived.Deep.DeepCutAuto
import Derived.Deep.LoopGhost
namespace Go.Proofs.YtiehbbhjpcnbnaaGreat
open Go.RowKit
set_option linter.unusedVariables false

set_option maxRecDepth 100000 in
/-- bytes behind a row's: where the row lies then -/
theorem appB_run (w : World) (v : Value) (l xs : List UInt8) (h : Row w v l) (a : Addr) (m c : Nat) (hm : m = xs.length) (hx : ∀ j u, (Lib.byteCells xs)[j]? = some u → w.cell? (a.add j) = some u) (hs : l.length + xs.length ≤ 16777216) :
    ∃ v' w', (Builtin.append_ #[83, 83] 83 #[v, .slice (some a) m c]).run Tryz.prog w = .ok v' w' ∧ Row w' v' (l ++ xs) ∧ w.grownBy w' v.ownBlock ∧ Lies w.heap.size v v' := by
  subst hm
  obtain ⟨i, hi, hz0, hz1, hz2⟩ := info_parts Tryz.info5
  obtain ⟨v', w', hr, ho, hg, _⟩ := run_append_own (P := Tryz.prog) w 0 83 83 5 i (.int .u8 0) 1 1 Tryz.underlying83 hi hz0 hz1 hz2 rfl (by decide) v l.length (Lib.byteCells l) h a xs.length c (Lib.byteCells xs) (by simp [Lib.byteCells]) hx
    (fun u hu => by simp [Lib.byteCells] at hu; obtain ⟨b, _, rfl⟩ := hu; rfl) (by unfold maxLen; omega) (by omega) (by omega)
  obtain ⟨p, cap, hsh, _, _⟩ := h.shape
  refine ⟨v', w', hr, ?_, hg, ?_⟩
  · unfold Row
    have e : Lib.byteCells (l ++ xs) = Lib.byteCells l ++ Lib.byteCells xs := by simp [Lib.byteCells]
    rw [List.length_append, e]
    exact ho
  · subst hsh
    exact append_lies hr
theorem wpList_appB {ops : Array Oper} {rest : List Oper} {o : Oper} {a : Act} {w : World} {Q : Exit → Act → World → Prop} (hgd : o.guard = none) (sl x : Operand) (hty : o.type = 83)
    (ho : o.op = .call { callee := .builtin .append, args := #[sl, x], argTypes := #[83, 83] })
    (v : Value) (l : List UInt8) (hs : a.eval sl = v) (hrow : Row w v l) (b : Addr) (y : Int) (hx : a.eval x = .slice (some b) 1 1) (hy : w.cell? (b.add 0) = some (.int .u8 y)) (z : UInt8) (hz : y = (z.toNat : Int)) (hn : l.length + 1 ≤ 16777216)
    (h : ∀ v' w', Row w' v' (l ++ [z]) → w.grownBy w' v.ownBlock → Lies w.heap.size v v' → wpList Tryz.prog ops Q rest (a.put o.dst v') w') : wpList Tryz.prog ops Q (o :: rest) a w := by
  subst hz
  refine wpList_plain hgd fun K hK => ?_
  obtain ⟨v', w', hr, h2, h3, h4⟩ := appB_run w v l [z] hrow b 1 1 rfl (fun j u hu => by
    match j with
    | 0 => injection hu with hu; rw [← hu]; exact hy
    | j + 1 => simp [Lib.byteCells] at hu) hn
  unfold Oper.wp execOp
  simp only [ho, hty, resolve, invoke, builtin, Sem.run_bind, Sem.run_pure, Result.andThen_ok, List.map_toArray, List.map_cons, List.map_nil, hs, hx, hr]
  exact hK _ _ (h v' w' h2 h3 h4)
theorem byte_nat (x : Nat) : ((UInt8.ofNat (x % 256)).toNat : Int) = ((x % 256 : Nat) : Int) := by
  rw [UInt8.toNat_ofNat']
  omega
/-- bytes are laid behind a row's -/
structure Laid (w wr : World) (v b : Value) (l : List UInt8) : Prop where
  row : Row wr b l
  kp : Kp (fun j => v.ownBlock = some j) w wr
  own : ∀ g, b.ownBlock = some g → v.ownBlock = some g ∨ w.heap.size ≤ g
theorem Laid.refl {w : World} {v : Value} {l : List UInt8} (h : Row w v l) : Laid w w v v l := ⟨h, Kp.refl _ _, fun g h => .inl h⟩
theorem Laid.trans {w w1 w2 : World} {v b d : Value} {l m : List UInt8} (h : Laid w w1 v b l) (k : Laid w1 w2 b d m) : Laid w w2 v d m :=
  ⟨k.row, h.kp.then k.kp fun j hj hg => by rcases h.own j hg with h1 | h1; exact h1; omega, fun g hg => by
    rcases k.own g hg with h1 | h1
    · exact h.own g h1
    · exact .inr (Nat.le_trans h.kp.size h1)⟩
theorem Laid.alloc {w wr : World} {v b : Value} {l : List UInt8} (h : Laid w wr v b l) (o : Obj) : Laid w (wr.alloc o) v b l :=
  ⟨h.row.kept fun g hg => Below.heap_alloc _ _ _ (h.row.lt g hg), h.kp.alloc o, h.own⟩
theorem Laid.more {w wr w' : World} {v b b' : Value} {l m : List UInt8} (h : Laid w wr v b l) (hr : Row w' b' m) (hg : wr.grownBy w' b.ownBlock) (hl : Lies wr.heap.size b b') : Laid w w' v b' m :=
  ⟨hr, h.kp.grown hg (fun k hk => h.own k hk), fun g hg' => by
    rcases hl with e | ⟨q, hq, e⟩
    · rw [e] at hg'; exact h.own g hg'
    · rw [e] at hg'
      injection hg' with hg'
      subst hg'
      exact .inr (Nat.le_trans h.kp.size hq)⟩
theorem bes_take_succ (k n q : Nat) (hq : q < k) : (bes k n).take (k - q) = (bes k n).take (k - (q + 1)) ++ [UInt8.ofNat (n / 256 ^ q % 256)] := by
  induction k with
  | zero => omega
  | succ k ih =>
    by_cases e : q = k
    · subst e
      rw [show q + 1 - q = 1 by omega, show q + 1 - (q + 1) = 0 by omega]
      rfl
    · rw [show k + 1 - q = (k - q) + 1 by omega, show k + 1 - (q + 1) = (k - (q + 1)) + 1 by omega, bes, List.take_succ_cons, List.take_succ_cons, List.cons_append, ← ih (by omega)]
theorem pow8 (q : Nat) : (2 : Nat) ^ (8 * q) = 256 ^ q := by rw [Nat.pow_mul]

theorem textSize_any (m c : Nat) (w : World) (hm : m ≤ 1000) (hc : c ≤ 1000) : Calls Tryz.prog 26 #[.int .i64 (m : Int), .int .i64 (c : Int)] w fun e w' => e = .returned (.int .i64 ((2 + 8 * c * (1 + m) : Nat) : Int)) ∧ w = w' := by
  have h1 : ((2 + 8 * c * (1 + m) : Nat) : Int) = 2 + (1 + (m : Int)) * (c : Int) * 8 := by
    rw [Int.natCast_add, Int.natCast_mul, Int.natCast_mul, Int.natCast_add]
    show (2 : Int) + 8 * (c : Int) * (1 + (m : Int)) = _
    rw [Int.mul_comm 8 (c : Int), Int.mul_assoc, Int.mul_comm 8, ← Int.mul_assoc, Int.mul_comm (c : Int)]
  have hmul : (1 + m) * c ≤ 1001 * 1000 := Nat.mul_le_mul (by omega) hc
  have h2 : (1 + (m : Int)) * (c : Int) = ((((1 + m) * c : Nat)) : Int) := by rw [Int.natCast_mul, Int.natCast_add]; rfl
  have w1 : IntKind.i64.wrap (1 + (m : Int)) = 1 + (m : Int) := by rw [IntKind.wrap_i64] <;> omega
  have w2 : IntKind.i64.wrap ((1 + (m : Int)) * (c : Int)) = (1 + (m : Int)) * (c : Int) := by rw [h2]; rw [IntKind.wrap_i64] <;> omega
  have w3 : IntKind.i64.wrap ((1 + (m : Int)) * (c : Int) * 8) = (1 + (m : Int)) * (c : Int) * 8 := by rw [h2]; rw [IntKind.wrap_i64] <;> omega
  have w4 : IntKind.i64.wrap (2 + (1 + (m : Int)) * (c : Int) * 8) = 2 + (1 + (m : Int)) * (c : Int) * 8 := by rw [h2]; rw [IntKind.wrap_i64] <;> omega
  rw [h1]
  replace h1 := Lib.hid h1
  replace h2 := Lib.hid h2
  go_enter Tryz.func26, Tryz.ntmps26
  go_wp2_with fail
  go_ret
  exact ⟨rfl, rfl⟩

set_option maxHeartbeats 4000000 in
set_option maxRecDepth 100000 in
theorem appendRow_any (v : Value) (l : List UInt8) (f : Nat → Int) (n : Nat) (w : World) (hr : Row w v l) (hn : n ≤ 8) (hl : l.length ≤ 100000) (hf : ∀ c, In64 (f c)) :
    Calls Tryz.prog 30 #[v, .agg (r8 f), .int .i64 (n : Int)] w fun e w' => ∃ b, e = .returned b ∧ Laid w w' v b (l ++ rowB f n) := by
  have hbx := heap_alloc_new w (.cells (r8 f) 77)
  have hL0 : Laid w (w.alloc (.cells (r8 f) 77)) v v l := (Laid.refl hr).alloc _
  have hn8 : (n : Int) ≤ 8 := by omega
  have hnz : (0 : Int) ≤ (n : Int) := by omega
  have hsz : (w.alloc (.cells (r8 f) 77)).heap.size = w.heap.size + 1 := by simp
  unfold r8 at *
  generalize hv0 : w.alloc (.cells #[.int .i64 (f 0), .int .i64 (f 1), .int .i64 (f 2), .int .i64 (f 3), .int .i64 (f 4), .int .i64 (f 5), .int .i64 (f 6), .int .i64 (f 7)] 77) = v0 at *
  have h0 : Laid v0 v0 v v (l ++ rowB f 0) := by
    unfold rowB
    rw [List.append_nil]
    exact Laid.refl hL0.row
  have hbox : ∀ (wr : World) (b : Value) (m : List UInt8), Laid v0 wr v b m → BX wr w.heap.size f := fun wr b m h => by
    unfold BX r8
    exact (h.kp.block _ (by omega) (fun e => by have := hr.lt _ e; omega)).trans hbx
  replace hv0 := Lib.hid hv0
  replace h0 := Lib.hid h0
  replace hL0 := Lib.hid hL0
  replace hr := Lib.hid hr
  replace hbx := Lib.hid hbx
  replace hbox := Lib.hid hbox
  go_enter Tryz.func30, Tryz.ntmps30
  go_upto_region 1 with (fail)
  change Code.wp _ _ _ _ (w.alloc (.cells #[.int .i64 (f 0), .int .i64 (f 1), .int .i64 (f 2), .int .i64 (f 3), .int .i64 (f 4), .int .i64 (f 5), .int .i64 (f 6), .int .i64 (f 7)] 77))
  rw [hv0.out]
  go_upto_region 2 with (fail)
  go_loopw [0, 13] (fun b i wr => ∃ k : Nat, k ≤ n ∧ i = .int .i64 (k : Int) ∧ Hid (Laid v0 wr v b (l ++ rowB f k))) (fun _ i _ => n - (intOf i).toNat)
  case atStart => exact ⟨0, by omega, rfl, h0⟩
  case round =>
    obtain ⟨k, hk, rfl, hS⟩ := hrel
    by_cases hkn : k < n
    · have kz : (k : Int) < (n : Int) := by omega
      have hB := hbox.out _ _ _ hS.out
      have x0 : wr.cell? ⟨w.heap.size, k, none⟩ = some (.int .i64 (f k)) := obj_cell hB (r8_get f (by omega))
      have hS1 : Laid v0 wr v u0 (l ++ rowB f k ++ (bes 8 (toU (f k))).take (8 - 8)) := by rw [Nat.sub_self, List.take_zero, List.append_nil]; exact hS.out
      have hfk := hf k
      have hkl : (l ++ rowB f k).length ≤ 100064 := by rw [List.length_append, rowB_length]; omega
      have hsucc : l ++ rowB f k ++ bes 8 (toU (f k)) = l ++ rowB f (k + 1) := by rw [List.append_assoc]; rfl
      generalize l ++ rowB f k = lk at *
      generalize f k = y at *
      replace hS1 := Lib.hid hS1
      replace hB := Lib.hid hB
      replace hsucc := Lib.hid hsucc
      replace hfk := Lib.hid hfk
      replace hf := Lib.hid hf
      go_upto_region 5 with (fail)
      clear x0
      go_loopw [0, 9] (fun b i wr => ∃ q : Nat, q ≤ 8 ∧ i = .int .i64 (8 * (q : Int) - 8) ∧ Hid (Laid v0 wr v b (lk ++ (bes 8 (toU y)).take (8 - q)))) (fun _ i _ => (intOf i + 8).toNat)
      case atStart => exact ⟨8, by omega, rfl, hS1⟩
      case round =>
        obtain ⟨q, hq, rfl, hS⟩ := hrel
        by_cases hq0 : 0 < q
        · obtain ⟨p, rfl⟩ : ∃ p, q = p + 1 := ⟨q - 1, by omega⟩
          have e7 : 8 - (p + 1) = 7 - p := by omega
          have e8 : (8 * ((p + 1 : Nat) : Int) - 8) = ((8 * p : Nat) : Int) := by omega
          rw [e8]
          have hz0 : (0 : Int) ≤ ((8 * p : Nat) : Int) := by omega
          have hst := hS.out
          obtain ⟨pp, cap, hsh, _, _⟩ := hst.row.shape
          have hll : (lk ++ (bes 8 (toU y)).take (8 - (p + 1))).length ≤ 100080 := by rw [List.length_append, List.length_take]; omega
          have hbs := bes_take_succ 8 (toU y) p (by omega)
          have hcv := wrap_toU y
          have hlt := toU_lt y
          have hlt2 : toU y / 256 ^ p % 256 < 256 := Nat.mod_lt _ (by decide)
          have hrow2 : ∀ o, Row (wr.alloc o) u0 (lk ++ (bes 8 (toU y)).take (8 - (p + 1))) := fun o => (hst.alloc o).row
          have hla : ∀ o, Laid v0 (wr.alloc o) v u0 (lk ++ (bes 8 (toU y)).take (8 - (p + 1))) := fun o => hst.alloc o
          have hp8 : (8 * p : Nat) < 64 := by omega
          replace hla := Lib.hid hla
          replace hrow2 := Lib.hid hrow2
          replace hst := Lib.hid hst
          replace hbs := Lib.hid hbs
          replace hsh := Lib.hid hsh
          go_wp2_with (at_builtin; refine wpList_appB rfl _ _ rfl rfl _ (lk ++ (bes 8 (toU y)).take (8 - (p + 1))) rfl (hrow2.out _) ⟨wr.heap.size, 0, none⟩ _ rfl (obj_cell (heap_alloc_new wr _) rfl) (UInt8.ofNat (toU y / 256 ^ p % 256)) ?hzz (by omega) ?_)
          case hzz => rw [byte_nat, ← pow8, Int.natCast_emod, Int.natCast_ediv, Int.natCast_pow]; rfl
          intro v' w' hr' hg hv'
          have hfin : Hid (Laid v0 w' v v' (lk ++ (bes 8 (toU y)).take (8 - p))) := Lib.hid (by
            rw [hbs.out, e7]
            exact (hla.out _).more (by simpa using hr') hg (by simpa using hv'))
          go_wp2_with fail
          go_roundw
          case rel => exact ⟨p, by omega, by go_num, hfin⟩
          case measure => simp [intOf]; omega
        · obtain rfl : q = 0 := by omega
          have hz0 : ¬ (0 : Int) ≤ 8 * ((0 : Nat) : Int) - 8 := by omega
          rw [Nat.sub_zero, List.take_of_length_le (by rw [bes_length]; omega), hsucc.out] at hS
          go_wp2_with fail
          go_roundw
          case rel => exact ⟨k + 1, by omega, by go_num, hS⟩
          case measure => simp [intOf]; omega
    · obtain rfl : k = n := by omega
      have kz : ¬ (k : Int) < (k : Int) := by omega
      go_wp2_with fail
      go_ret
      exact ⟨_, rfl, hL0.out.trans hS.out⟩

/-- Text's way -/
structure TS (w wr : World) (b : Value) (l : List UInt8) : Prop where
  row : Row wr b l
  blw : Below w.heap.size w wr
  own : ∀ g, b.ownBlock = some g → w.heap.size ≤ g
theorem TS.step {w wr w' : World} {b d : Value} {l m : List UInt8} (h : TS w wr b l) (k : Laid wr w' b d m) : TS w w' d m :=
  ⟨k.row, h.blw.trans (k.kp.below h.blw.size fun j hj e => by have := h.own j e; omega), fun g hg => by
    rcases k.own g hg with e | e
    · exact h.own g e
    · exact Nat.le_trans h.blw.size e⟩
theorem TS.alloc {w wr : World} {b : Value} {l : List UInt8} (h : TS w wr b l) (o : Obj) : TS w (wr.alloc o) b l :=
  ⟨h.row.kept fun g hg => Below.heap_alloc _ _ _ (h.row.lt g hg), h.blw.alloc h.blw.size _, h.own⟩
set_option maxRecDepth 100000 in
theorem make_room (n : Nat) (hn : n ≤ 1000000) (w : World) :
    (Instr.makeSlice 83 (.int .i64 0) (.int .i64 (n : Int))).run Tryz.prog w = .ok (.slice (some ⟨w.heap.size, 0, none⟩) 0 n) (w.alloc (.cells (zb n) 5)) := by
  obtain ⟨i0, hi, hz0, hz1, hz2⟩ := info_parts Tryz.info5
  have hb : (i0.bytes : Int) * (n : Int) ≤ 281474976710656 := by rw [hz2]; omega
  have hr := run_make (P := Tryz.prog) w 83 5 i0 (.int .u8 0) Tryz.underlying83 hi hz0 .i64 .i64 0 n (by omega) (by omega) hb (by omega)
  simp only [Int.toNat_natCast, Int.toNat_zero, hz1, Nat.mul_one] at hr
  rw [hr, ← made_zb]
  rfl
theorem Row.room (w : World) (n : Nat) (hn : n ≤ 1000000) : Row (w.alloc (.cells (zb n) 5)) (.slice (some ⟨w.heap.size, 0, none⟩) 0 n) [] :=
  ⟨rfl, .inr ⟨w.heap.size, n, zb n, rfl, Nat.zero_le _, heap_alloc_new w _, Nat.zero_le _, by unfold maxLen; omega, by unfold zb Lib.byteCells; simp, by simp [Lib.byteCells]⟩⟩

set_option maxHeartbeats 4000000 in
set_option maxRecDepth 100000 in
theorem ptext_any {P : Nat → Prop} {b gB cB : Nat} {l : LM} (w : World) (h : PLv P w b l gB cB) (hg : l.Good) :
    Calls Tryz.prog 11 #[.pointer (some ⟨b, 0, none⟩)] w fun e w' => e = .returned (sv l.text) ∧ Below w.heap.size w w' := by
  have cZ := psize_any w h
  have hm := hg.ok.nm
  have hc := hg.ok.nc
  have cT := fun w => textSize_any l.nm l.nc w (by omega) (by omega)
  have hmul : 8 * l.nc * (1 + l.nm) ≤ 8 * 8 * 17 := Nat.mul_le_mul (by omega) (by omega)
  generalize hN : 2 + 8 * l.nc * (1 + l.nm) = N at *
  have hmk := fun w => make_room N (by omega) w
  have hwm : IntKind.u8.wrap (l.nm : Int) = (l.nm : Int) := by rw [IntKind.wrap_u8]; omega
  have hwc : IntKind.u8.wrap (l.nc : Int) = (l.nc : Int) := by rw [IntKind.wrap_u8]; omega
  have hrun : ∀ nq, ∃ v' w', (Builtin.append_ #[83, 83] 83 #[.slice (some ⟨w.heap.size, 0, none⟩) 0 N, .slice (some ⟨w.heap.size + 1, 0, none⟩) 2 2]).run Tryz.prog (((w.drewN nq).alloc (.cells (zb N) 5)).alloc (.cells #[.int .u8 (l.nm : Int), .int .u8 (l.nc : Int)] 5)) = .ok v' w' ∧ TS w w' v' [UInt8.ofNat l.nm, UInt8.ofNat l.nc] := by
    intro nq
    have e1 : ((UInt8.ofNat l.nm).toNat : Int) = (l.nm : Int) := by rw [UInt8.toNat_ofNat']; omega
    have e2 : ((UInt8.ofNat l.nc).toNat : Int) = (l.nc : Int) := by rw [UInt8.toNat_ofNat']; omega
    have hT : TS w ((w.drewN nq).alloc (.cells (zb N) 5)) (.slice (some ⟨w.heap.size, 0, none⟩) 0 N) [] := ⟨Row.room (w.drewN nq) N (by omega), (below_drewN (Below.refl _ w) nq).alloc (Nat.le_refl _) _, fun g hg => by simp [Value.ownBlock] at hg; omega⟩
    have hT2 := hT.alloc (.cells #[.int .u8 (l.nm : Int), .int .u8 (l.nc : Int)] 5)
    have hnew := heap_alloc_new ((w.drewN nq).alloc (.cells (zb N) 5)) (.cells #[.int .u8 (l.nm : Int), .int .u8 (l.nc : Int)] 5)
    obtain ⟨v', w', h1, h2, h3, h4⟩ := appB_run _ _ [] [UInt8.ofNat l.nm, UInt8.ofNat l.nc] hT2.row ⟨w.heap.size + 1, 0, none⟩ 2 2 rfl (fun j u hu => by
      have hs : ((w.drewN nq).alloc (.cells (zb N) 5)).heap.size = w.heap.size + 1 := by simp
      rw [hs] at hnew
      match j with
      | 0 => injection hu with hu; rw [← hu]; dsimp only; rw [e1]; exact obj_cell hnew rfl
      | 1 => injection hu with hu; rw [← hu]; dsimp only; rw [e2]; exact obj_cell hnew rfl
      | j + 2 => simp [Lib.byteCells] at hu) (by simp)
    exact ⟨v', w', h1, hT2.step ((Laid.refl hT2.row).more h2 h3 h4)⟩
  have htx : l.text = [UInt8.ofNat l.nm, UInt8.ofNat l.nc] ++ (rowB l.N l.nc ++ rowsB l.B l.nc l.nm) := rfl
  have hhl : ([UInt8.ofNat l.nm, UInt8.ofNat l.nc] : List UInt8).length = 2 := rfl
  generalize ([UInt8.ofNat l.nm, UInt8.ofNat l.nc] : List UInt8) = hd at *
  have hb64 := hg.ok.b
  have hn64 := hg.ok.n
  replace htx := Lib.hid htx
  replace hrun := Lib.hid hrun
  replace cT := Lib.hid cT
  replace cZ := Lib.hid cZ
  replace hN := Lib.hid hN
  replace h := Lib.hid h
  replace hg := Lib.hid hg
  replace hb64 := Lib.hid hb64
  replace hn64 := Lib.hid hn64
  go_enter Tryz.func11, Tryz.ntmps11
  go_wp2_with fail
  with_reducible refine cZ.out.mono ?_
  rintro e w1 ⟨rfl, nq, rfl⟩
  go_wp2_with fail
  with_reducible refine (cT.out _).mono ?_
  rintro e w2 ⟨rfl, rfl⟩
  obtain ⟨v3, w3, hrun3, hT3⟩ := hrun.out nq
  replace hrun3 := Lib.hid hrun3
  go_upto_region 3 with (at_builtin; refine wpList_run rfl (.tmp 16) (.tmp 21) 83 83 rfl _ _ _ _ rfl rfl hrun3.out ?_)
  have hR3 := h.out.below hT3.blw
  obtain ⟨n0, n1, n2, n3, n4, n5, n6, n7⟩ := hR3.ncells
  have hl8 : l.nc ≤ 8 := by omega
  have cA := appendRow_any v3 hd l.N l.nc w3 hT3.row hl8 (by omega) hn64.out
  unfold r8 at cA
  replace cA := Lib.hid cA
  replace hT3 := Lib.hid hT3
  replace hR3 := Lib.hid hR3
  go_wp2_with fail
  with_reducible refine cA.out.mono ?_
  rintro e w4 ⟨d, rfl, hL4⟩
  have hT4 : Hid (TS w w4 d (hd ++ rowB l.N l.nc ++ rowsB l.B l.nc 0)) := Lib.hid (by
    unfold rowsB
    rw [List.append_nil]
    exact hT3.out.step hL4)
  have c9 := (h.out.below hT4.out.blw).c9
  clear n0 n1 n2 n3 n4 n5 n6 n7
  replace hL4 := Lib.hid hL4
  go_upto_region 5 with (fail)
  go_loopw [5, 35] (fun d i wr => ∃ m : Nat, m ≤ l.nm ∧ i = .int .i64 (m : Int) ∧ Hid (TS w wr d (hd ++ rowB l.N l.nc ++ rowsB l.B l.nc m))) (fun _ i _ => l.nm - (intOf i).toNat)
  case atStart => exact ⟨0, by omega, rfl, hT4⟩
  case round =>
    obtain ⟨m, hmm, rfl, hT⟩ := hrel
    by_cases hmn : m < l.nm
    · have mz : (m : Int) < (l.nm : Int) := by omega
      have hRr := h.out.below hT.out.blw
      obtain ⟨b0, b1, b2, b3, b4, b5, b6, b7⟩ := hRr.bal.cells hmn
      have hTa := hT.out.alloc (.cells (r8 (l.B m)) 77)
      have hnew := BX.made wr (l.B m)
      have h3 : 8 * l.nc * m ≤ 8 * 8 * 16 := Nat.mul_le_mul (by omega) (by omega)
      have hll : (hd ++ rowB l.N l.nc ++ rowsB l.B l.nc m).length ≤ 100000 := by rw [List.length_append, List.length_append, hhl, rowsB_length, rowB_length]; omega
      have cA := appendRow_any u5 (hd ++ rowB l.N l.nc ++ rowsB l.B l.nc m) (l.B m) l.nc _ hTa.row hl8 hll (hb64.out m)
      have hfin : ∀ w' d', Laid (wr.alloc (.cells (r8 (l.B m)) 77)) w' u5 d' (hd ++ rowB l.N l.nc ++ rowsB l.B l.nc m ++ rowB (l.B m) l.nc) → TS w w' d' (hd ++ rowB l.N l.nc ++ rowsB l.B l.nc (m + 1)) := fun w' d' h => by
        rw [rowsB_succ, ← List.append_assoc]
        exact hTa.step h
      unfold r8 at *
      generalize hv : wr.alloc (.cells #[.int .i64 (l.B m 0), .int .i64 (l.B m 1), .int .i64 (l.B m 2), .int .i64 (l.B m 3), .int .i64 (l.B m 4), .int .i64 (l.B m 5), .int .i64 (l.B m 6), .int .i64 (l.B m 7)] 77) = v at *
      obtain ⟨x0, x1, x2, x3, x4, x5, x6, x7⟩ := hnew.cells
      replace hv := Lib.hid hv
      replace cA := Lib.hid cA
      replace hTa := Lib.hid hTa
      replace hRr := Lib.hid hRr
      replace hfin := Lib.hid hfin
      replace hnew := Lib.hid hnew
      go_upto_region 7 with (fail)
      change Code.wp _ _ _ _ (wr.alloc (.cells #[.int .i64 (l.B m 0), .int .i64 (l.B m 1), .int .i64 (l.B m 2), .int .i64 (l.B m 3), .int .i64 (l.B m 4), .int .i64 (l.B m 5), .int .i64 (l.B m 6), .int .i64 (l.B m 7)] 77))
      rw [hv.out]
      go_wp2_with fail
      with_reducible refine cA.out.mono ?_
      rintro e w5 ⟨d', rfl, hL5⟩
      have hT5 := Lib.hid (hfin.out _ _ hL5)
      replace hL5 := Lib.hid hL5
      go_wp2_with fail
      go_roundw
      case rel => exact ⟨m + 1, by omega, by go_num, hT5⟩
      case measure => simp [intOf]; omega
    · obtain rfl : m = l.nm := by omega
      have mz : ¬ (l.nm : Int) < (l.nm : Int) := by omega
      have hcv := hT.out.row.text
      rw [List.append_assoc, ← htx.out] at hcv
      have hB := hT.out.blw
      replace hB := Lib.hid hB
      unfold sv at hcv
      go_wp2_with fail
      go_ret
      exact ⟨rfl, hB.out⟩
end Go.Proofs.YtiehbbhjpcnbnaaGreat
namespace Go.Proofs.YtiehbbhjpcnbnaaGreat
open Go.RowKit
set_option linter.unusedVariables false

theorem orU_byte (m b : Nat) (hm : m < 72057594037927936) (hb : b < 256) : bits .or .u64 ((m : Int) * 256) (b : Int) = ((m * 256 + b : Nat) : Int) := by
  have e1 : BitVec.ofInt IntKind.u64.bits ((m : Int) * 256) = BitVec.ofNat IntKind.u64.bits (m * 256) := by
    apply BitVec.eq_of_toNat_eq
    rw [BitVec.toNat_ofInt, BitVec.toNat_ofNat]
    simp [IntKind.bits]
    omega
  have e2 : BitVec.ofInt IntKind.u64.bits (b : Int) = BitVec.ofNat IntKind.u64.bits b := by
    apply BitVec.eq_of_toNat_eq
    rw [BitVec.toNat_ofInt, BitVec.toNat_ofNat]
    simp [IntKind.bits]
    omega
  have e3 : m * 256 ||| b = m * 256 + b := by
    have := Nat.shiftLeft_add_eq_or_of_lt (b := b) (i := 8) (by omega) m
    rw [Nat.shiftLeft_eq] at this
    exact this.symm
  unfold bits
  rw [e1, e2]
  simp only [BitVec.toNat_or, BitVec.toNat_ofNat]
  have h1 : (2 : Nat) ^ IntKind.u64.bits = 18446744073709551616 := by decide
  rw [h1, Nat.mod_eq_of_lt (by omega), Nat.mod_eq_of_lt (by omega), e3]
  unfold IntKind.wrap
  simp [IntKind.bits, IntKind.signed]
  omega
theorem wrap_toI (n : Nat) (h : n < 18446744073709551616) : IntKind.i64.wrap (n : Int) = toI n := by
  rw [IntKind.wrap_i64]
  unfold toI
  split <;> omega
theorem vls_take_succ (l : List UInt8) (q : Nat) (h : q < l.length) : vls (l.take (q + 1)) = vls (l.take q) * 256 + l[q].toNat := by
  rw [List.take_succ_eq_append_getElem h, vls_snoc]
theorem bl_ext (s : ByteArray) (a b : Nat) : bl (s.extract a b) = ((bl s).drop a).take (b - a) := by
  have h : s = ⟨(bl s).toArray⟩ := (mk_bl s).symm
  rw [h, ext_mk, bl_mk, bl_mk]

set_option maxHeartbeats 2000000 in
set_option maxRecDepth 100000 in
theorem takeAmount_any (s : ByteArray) (w : World) (hs : s.size ≤ 8) :
    Calls Tryz.prog 54 #[.string s] w fun e w' => e = .returned (.int .i64 (toI (vls (bl s)))) ∧ w = w' := by
  have hbl := bl_length s
  go_enter Tryz.func54, Tryz.ntmps54
  go_wp2_with fail
  go_loop [3, 7] (fun n i => ∃ q : Nat, q ≤ s.size ∧ i = .int .i64 (q : Int) ∧ n = .int .u64 ((vls ((bl s).take q) : Nat) : Int)) (fun _ i => s.size - (intOf i).toNat)
  case atStart => exact ⟨0, by omega, rfl, rfl⟩
  case round =>
    obtain ⟨q, hq, rfl, rfl⟩ := hrel
    by_cases hqk : q < s.size
    · have hqz : (q : Int) < (s.size : Int) := by omega
      have hsu := vls_take_succ (bl s) q (by omega)
      have hb : (bl s)[q]'(by omega) = s[q] := rfl
      rw [hb] at hsu
      have hlt := vls_lt ((bl s).take q)
      rw [List.length_take, Nat.min_eq_left (by omega)] at hlt
      have h7 : (256 : Nat) ^ q ≤ 256 ^ 7 := Nat.pow_le_pow_right (by omega) (by omega)
      have h77 : (256 : Nat) ^ 7 = 72057594037927936 := by decide
      have hb2 := s[q].toNat_lt
      have hor := orU_byte (vls ((bl s).take q)) s[q].toNat (by omega) (by omega)
      rw [← hsu] at hor
      have hm : vls ((bl s).take q) < 72057594037927936 := by omega
      generalize vls ((bl s).take q) = m at *
      replace hor := Lib.hid hor
      clear hsu hlt h7 h77 hb
      go_wp2_with fail
      go_round
      case rel => exact ⟨q + 1, by omega, by go_num, congrArg (Value.int .u64) hor.out⟩
      case measure => simp [intOf]; omega
    · obtain rfl : q = s.size := by omega
      have hlt := vls_lt (bl s)
      have h8 : (256 : Nat) ^ (bl s).length ≤ 256 ^ 8 := Nat.pow_le_pow_right (by omega) (by omega)
      have h88 : (256 : Nat) ^ 8 = 18446744073709551616 := by decide
      have ht : (bl s).take s.size = bl s := List.take_of_length_le (by omega)
      rw [ht]
      have hw := wrap_toI (vls (bl s)) (by omega)
      generalize hm : vls (bl s) = m at *
      clear hlt h8 h88 ht
      go_wp2_with fail
      go_ret
      exact ⟨rfl, rfl⟩
theorem BX.drew {w : World} {p : Nat} {f : Nat → Int} (h : BX w p f) : BX w.drew p f := h
/-- a row that is told -/
def rowT (l : List UInt8) (at_ n : Nat) : Nat → Int := fun c => if c < n then amt l (at_ + 8 * c) else 0
theorem rowT_succ (l : List UInt8) (k n : Nat) : upd (rowT l k n) n (amt l (k + 8 * n)) = rowT l k (n + 1) := by
  funext c
  unfold upd rowT
  by_cases e : c = n
  · subst e; rw [if_pos rfl, if_pos (by omega)]
  · rw [if_neg e]
    by_cases h : c < n
    · rw [if_pos h, if_pos (by omega)]
    · rw [if_neg h, if_neg (by omega)]
theorem amt_in (l : List UInt8) (k : Nat) : In64 (amt l k) := by
  have h := vls_lt ((l.drop k).take 8)
  have h8 : (256 : Nat) ^ ((l.drop k).take 8).length ≤ 256 ^ 8 := Nat.pow_le_pow_right (by omega) (by rw [List.length_take]; omega)
  have h88 : (256 : Nat) ^ 8 = 18446744073709551616 := by decide
  exact toI_bnd _ (by omega)
theorem rowT_in (l : List UInt8) (k n : Nat) (c : Nat) : In64 (rowT l k n c) := by
  unfold rowT
  split
  · exact amt_in _ _
  · decide

set_option maxHeartbeats 4000000 in
set_option maxRecDepth 100000 in
theorem takeRow_any (s : ByteArray) (n : Nat) (w : World) (hn : n ≤ 8) (hs : 8 * n ≤ s.size) (hsz : s.size ≤ 100000) :
    Calls Tryz.prog 28 #[.string s, .int .i64 (n : Int)] w fun e w' => e = .returned (.tuple #[.agg (r8 (rowT (bl s) 0 n)), .string (s.extract (8 * n) s.size)]) ∧ Below w.heap.size w w' := by
  have h4 : BX ((w.alloc (.cells (r8 fun _ => 0) 77)).alloc (.cells (r8 fun _ => 0) 77)) w.heap.size (fun _ => 0) := heap_alloc2_old w _ _
  have h6 : BX ((w.alloc (.cells (r8 fun _ => 0) 77)).alloc (.cells (r8 fun _ => 0) 77)) (w.heap.size + 1) (rowT (bl s) 0 0) := by
    have e : rowT (bl s) 0 0 = fun _ => 0 := by funext c; exact if_neg (by omega)
    rw [e]
    exact heap_alloc2_new w _ _
  have hB : Below w.heap.size w ((w.alloc (.cells (r8 fun _ => 0) 77)).alloc (.cells (r8 fun _ => 0) 77)) := ((Below.refl _ w).alloc (Nat.le_refl _) _).alloc (by simp) _
  unfold r8 at h4 h6 hB
  generalize hv : (w.alloc (.cells #[.int .i64 0, .int .i64 0, .int .i64 0, .int .i64 0, .int .i64 0, .int .i64 0, .int .i64 0, .int .i64 0] 77)).alloc (.cells #[.int .i64 0, .int .i64 0, .int .i64 0, .int .i64 0, .int .i64 0, .int .i64 0, .int .i64 0, .int .i64 0] 77) = v at *
  replace hv := Lib.hid hv
  replace h4 := Lib.hid h4
  replace h6 := Lib.hid h6
  replace hB := Lib.hid hB
  go_enter Tryz.func28, Tryz.ntmps28
  go_upto_region 2 with (fail)
  change Code.wp _ _ _ _ ((w.alloc (.cells #[.int .i64 0, .int .i64 0, .int .i64 0, .int .i64 0, .int .i64 0, .int .i64 0, .int .i64 0, .int .i64 0] 77)).alloc (.cells #[.int .i64 0, .int .i64 0, .int .i64 0, .int .i64 0, .int .i64 0, .int .i64 0, .int .i64 0, .int .i64 0] 77))
  rw [hv.out]
  go_upto_region 3 with (fail)
  go_loopw [9] (fun i wr => ∃ k : Nat, k ≤ n ∧ i = .int .i64 (k : Int) ∧ Hid (BX wr w.heap.size (fun _ => 0)) ∧ Hid (BX wr (w.heap.size + 1) (rowT (bl s) 0 k)) ∧ Hid (Below w.heap.size w wr)) (fun i _ => n - (intOf i).toNat)
  case atStart => exact ⟨0, by omega, rfl, h4, h6, hB⟩
  case round =>
    obtain ⟨k, hk, rfl, h4, h6, hB⟩ := hrel
    by_cases hkn : k < n
    · have kz : (k : Int) < (n : Int) := by omega
      have k8 : (k : Int) < 8 := by omega
      have hk8 : k < 8 := by omega
      have w1 : IntKind.i64.wrap ((k : Int) * 8) = (k : Int) * 8 := by rw [IntKind.wrap_i64] <;> omega
      have w2 : IntKind.i64.wrap ((k : Int) + 1) = (k : Int) + 1 := by rw [IntKind.wrap_i64] <;> omega
      have w3 : IntKind.i64.wrap (((k : Int) + 1) * 8) = ((k : Int) + 1) * 8 := by rw [IntKind.wrap_i64] <;> omega
      have z1 : (0 : Int) ≤ (k : Int) * 8 := by omega
      have z2 : (k : Int) * 8 ≤ ((k : Int) + 1) * 8 := by omega
      have z3 : ((k : Int) + 1) * 8 ≤ (s.size : Int) := by omega
      have n1 : ((k : Int) * 8).toNat = k * 8 := by omega
      have n2 : (((k : Int) + 1) * 8).toNat = k * 8 + 8 := by omega
      have cA := fun w => takeAmount_any (s.extract (k * 8) (k * 8 + 8)) w (by rw [ext_size _ _ _ (by omega)]; omega)
      have eA : toI (vls (bl (s.extract (k * 8) (k * 8 + 8)))) = amt (bl s) (0 + 8 * k) := by
        rw [bl_ext, Nat.zero_add, Nat.mul_comm 8 k]
        have e : k * 8 + 8 - k * 8 = 8 := by omega
        rw [e]
        rfl
      rw [eA] at cA
      have hup := rowT_succ (bl s) 0 k
      generalize amt (bl s) (0 + 8 * k) = y at *
      have x0 : wr.cell? ⟨w.heap.size + 1, k, none⟩ = some (.int .i64 (rowT (bl s) 0 k k)) := obj_cell h6.out (r8_get _ hk8)
      have z0 := obj_free h6.out k
      have h6n : BX (wr.setCell ⟨w.heap.size + 1, k, none⟩ (.int .i64 y)) (w.heap.size + 1) (rowT (bl s) 0 (k + 1)) := by
        have h1 := obj_set h6.out k (.int .i64 y)
        rw [r8_set _ hk8, hup] at h1
        exact h1
      have h4n : BX (wr.setCell ⟨w.heap.size + 1, k, none⟩ (.int .i64 y)) w.heap.size (fun _ => 0) := h4.out.at (obj_other _ (by show w.heap.size ≠ w.heap.size + 1; omega))
      have hBn : Below w.heap.size w (wr.setCell ⟨w.heap.size + 1, k, none⟩ (.int .i64 y)) := hB.out.setCell (by show w.heap.size ≤ w.heap.size + 1; omega) _
      replace h4n := Lib.hid h4n
      replace h6n := Lib.hid h6n
      replace hBn := Lib.hid hBn
      replace hup := Lib.hid hup
      replace eA := Lib.hid eA
      replace cA := Lib.hid cA
      go_wp2_with fail
      with_reducible refine (cA.out _).mono ?_
      rintro e w5 ⟨rfl, rfl⟩
      go_wp2_with fail
      go_roundw
      case rel => exact ⟨k + 1, by omega, by go_num, h4n, h6n, hBn⟩
      case measure => simp [intOf]; omega
    · obtain rfl : k = n := by omega
      have kz : ¬ (k : Int) < (k : Int) := by omega
      have w1 : IntKind.i64.wrap ((k : Int) * 8) = (k : Int) * 8 := by rw [IntKind.wrap_i64] <;> omega
      have z1 : (0 : Int) ≤ (k : Int) * 8 := by omega
      have z2 : (k : Int) * 8 ≤ (s.size : Int) := by omega
      have n1 : ((k : Int) * 8).toNat = 8 * k := by omega
      generalize hf : rowT (bl s) 0 k = f at *
      obtain ⟨y0, y1, y2, y3, y4, y5, y6, y7⟩ := h6.out.cells
      have z4 := obj_free h4.out
      obtain ⟨o0, o1, o2, o3, o4, o5, o6, o7⟩ := h4.out.cells
      have h4f := (h4.out.set f).drew
      have hBf : Below w.heap.size w (st8 wr w.heap.size 0 f).drew := (below_st8 hB.out (Nat.le_refl _) _ _).drew
      generalize hv4 : (st8 wr w.heap.size 0 f).drew = v4 at *
      obtain ⟨q0, q1, q2, q3, q4, q5, q6, q7⟩ := h4f.cells
      replace hv4 := Lib.hid hv4
      replace h4f := Lib.hid h4f
      replace hBf := Lib.hid hBf
      go_upto_region 7 with (fail)
      go_region
      all_goals go_upto_region 8 with (fail)
      all_goals change bodyPost _ _ _ _ _ (st8 wr w.heap.size 0 f).drew
      all_goals rw [hv4.out]
      all_goals refine bodyPost_ret (v := .tuple #[.agg (r8 f), .string (s.extract (8 * k) s.size)]) ?_ rfl ⟨?_, ?_⟩
      · simp [results, Tryz.results28, go_sem, q0, q1, q2, q3, q4, q5, q6, q7, r8]
      · rfl
      · repeat (refine Below.setCell ?_ (Nat.le_refl _) _)
        exact hBf.out
end Go.Proofs.YtiehbbhjpcnbnaaGreat
namespace Go.Proofs.YtiehbbhjpcnbnaaGreat
open Go.RowKit
set_option linter.unusedVariables false

/-- changes that came in -/
def ChR (w : World) (p : Option Addr) (len : Nat) (cs : List (Nat × Int)) : Prop :=
  cs.length = len ∧ (∀ q ∈ cs, q.1 < 8 ∧ In64 q.2) ∧ ∃ g, p = some ⟨g, 0, none⟩ ∧ g < w.heap.size ∧ ∀ i q, cs[i]? = some q → w.cell? ⟨g, i * 2, none⟩ = some (.int .i64 (q.1 : Nat)) ∧ w.cell? ⟨g, i * 2 + 1, none⟩ = some (.int .i64 q.2)
/-- the balances and the nostros behind changes -/
def mvR : List (Nat × Int) → (Nat → Int) → (Nat → Int) → Option ((Nat → Int) × (Nat → Int))
  | [], b, n => some (b, n)
  | (c, x) :: r, b, n => if In64 (b c + x) ∧ In64 (n c + x) then mvR r (upd b c (b c + x)) (upd n c (n c + x)) else none

/-- what move tells -/
def MvP (P : Nat → Prop) (b : Nat) (l : LM) (m : Nat) (cs : List (Nat × Int)) (w : World) (e : Ending) (w' : World) : Prop :=
  (∀ r, mvR cs (l.B m) l.N = some r → e = .returned (.int .i64 0) ∧ PL P w' b ⟨l.nm, l.nc, updR l.B m r.1, r.2⟩) ∧ (mvR cs (l.B m) l.N = none → e = .returned (.int .i64 3) ∧ PL P w' b l) ∧ Kp P w w'
/-- move's way -/
structure MSt (w : World) (l : LM) (m : Nat) (cs : List (Nat × Int)) (p7 p8 k : Nat) (rb rn : Nat → Int) (wr : World) : Prop where
  x7 : BX wr p7 rb
  x8 : BX wr p8 rn
  go : mvR (cs.drop k) rb rn = mvR cs (l.B m) l.N
  ib : ∀ c, In64 (rb c)
  ini : ∀ c, In64 (rn c)
  blw : Below w.heap.size w wr
theorem MSt.drew {w : World} {l : LM} {m : Nat} {cs : List (Nat × Int)} {p7 p8 k : Nat} {rb rn : Nat → Int} {wr : World} (h : MSt w l m cs p7 p8 k rb rn wr) : MSt w l m cs p7 p8 k rb rn wr.drew := ⟨h.x7, h.x8, h.go, h.ib, h.ini, h.blw.drew⟩
theorem PLv.drew {P : Nat → Prop} {w : World} {b gB cB : Nat} {l : LM} (h : PLv P w b l gB cB) : PLv P w.drew b l gB cB := h.kept fun _ _ _ => rfl
theorem MSt.step {cs : List (Nat × Int)} {k : Nat} {q : Nat × Int} (hq : cs[k]? = some q) (rb rn : Nat → Int) :
    mvR (cs.drop k) rb rn = if In64 (rb q.1 + q.2) ∧ In64 (rn q.1 + q.2) then mvR (cs.drop (k + 1)) (upd rb q.1 (rb q.1 + q.2)) (upd rn q.1 (rn q.1 + q.2)) else none := by
  obtain ⟨hk, e⟩ := List.getElem?_eq_some_iff.1 hq
  rw [List.drop_eq_getElem_cons hk, e]
  obtain ⟨c, x⟩ := q
  rfl
theorem plus_in {f : Nat → Int} {c : Nat} {x : Int} (h : In64 (f c + x)) : plusR f c x = upd f c (f c + x) := if_pos h

set_option maxHeartbeats 8000000 in
set_option maxRecDepth 100000 in
theorem move_any (P : Nat → Prop) (b : Nat) (l : LM) (gB cB : Nat) (m : Nat) (p : Option Addr) (len cap : Nat) (cs : List (Nat × Int)) (w : World) (h : PLv P w b l gB cB) (hm : m < l.nm) (hb64 : ∀ c, In64 (l.B m c)) (hn64 : ∀ c, In64 (l.N c))
    (hcs : ChR w p len cs) (hl8 : len ≤ 1000) (hP : ∀ i, w.heap.size ≤ i → P i) :
    Calls Tryz.prog 67 #[.pointer (some ⟨b, 0, none⟩), .int .i64 (m : Int), .slice p len cap] w (MvP P b l m cs w) := by
  have c9 := h.c9
  obtain ⟨n0, n1, n2, n3, n4, n5, n6, n7⟩ := h.ncells
  obtain ⟨b0, b1, b2, b3, b4, b5, b6, b7⟩ := h.bal.cells hm
  have hmz : (m : Int) < (l.nm : Int) := by omega
  have hbl := obj_lt h.obj
  have hgl := h.bal.lt
  replace h := Lib.hid h
  replace hb64 := Lib.hid hb64
  replace hn64 := Lib.hid hn64
  replace hcs := Lib.hid hcs
  replace hP := Lib.hid hP
  go_enter Tryz.func67, Tryz.ntmps67
  go_upto_region 1 with (fail)
  go_cut [7, 8] from 14 (fun v7 v8 wc => ∃ p7 p8 : Nat, v7 = .pointer (some ⟨p7, 0, none⟩) ∧ v8 = .pointer (some ⟨p8, 0, none⟩) ∧ Hid (BX wc p7 (l.B m)) ∧ Hid (BX wc p8 l.N) ∧ Hid (p7 ≠ p8 ∧ w.heap.size ≤ p7 ∧ w.heap.size ≤ p8) ∧ Hid (Below w.heap.size w wc))
  case first =>
    go_region
    all_goals go_wp2_with fail
    all_goals go_meet
    all_goals
      (try case rel => first
        | exact ⟨_, _, rfl, rfl, heap_alloc2_old w _ _, heap_alloc2_new w _ _, ⟨by omega, by omega, by omega⟩, (((Below.refl _ w).alloc (Nat.le_refl _) _).alloc (by simp) _).drew⟩
        | exact ⟨_, _, rfl, rfl, heap_alloc2_new w _ _, heap_alloc2_old w _ _, ⟨by omega, by omega, by omega⟩, (((Below.refl _ w).alloc (Nat.le_refl _) _).alloc (by simp) _).drew⟩)
  case rest =>
    obtain ⟨p7, p8, rfl, rfl, hb7, hb8, hpp, hBc⟩ := hcut
    have hS0 : MSt w l m cs p7 p8 0 (l.B m) l.N wc := ⟨hb7.out, hb8.out, rfl, hb64.out, hn64.out, hBc.out⟩
    clear c9 n0 n1 n2 n3 n4 n5 n6 n7 b0 b1 b2 b3 b4 b5 b6 b7
    replace hS0 := Lib.hid hS0
    go_upto_region 3 with (fail)
    go_loopw [27] (fun i wr => ∃ (k : Nat) (rb rn : Nat → Int), k ≤ len ∧ i = .int .i64 (k : Int) ∧ Hid (MSt w l m cs p7 p8 k rb rn wr)) (fun i _ => len - (intOf i).toNat)
    case atStart => exact ⟨0, _, _, by omega, rfl, hS0⟩
    case round =>
      obtain ⟨k, rb, rn, hk, rfl, hS⟩ := hrel
      by_cases hkl : k < len
      · have hkz : (k : Int) < (len : Int) := by omega
        obtain ⟨hlen, hrng, g, rfl, hgs, hcells⟩ := hcs.out
        obtain ⟨⟨c, x⟩, hq⟩ : ∃ q, cs[k]? = some q := ⟨cs[k], List.getElem?_eq_getElem (by omega)⟩
        have hT := hS.out
        have hws := hT.blw.size
        obtain ⟨q0, q1⟩ := hcells k _ hq
        replace q0 := (hT.blw.cell (p := ⟨g, k * 2, none⟩) hgs).trans q0
        replace q1 := (hT.blw.cell (p := ⟨g, k * 2 + 1, none⟩) hgs).trans q1
        have hgs2 : g < wr.heap.size := by omega
        obtain ⟨hc8, hx64⟩ := hrng _ (List.mem_of_getElem? hq)
        dsimp only at q0 q1 hc8 hx64
        have hstep := MSt.step hq rb rn
        dsimp only at hstep
        rw [hT.go] at hstep
        have hp1 := fun w => rplus_any rb hT.ib c hc8 x hx64 w
        have hp2 := fun w => rplus_any rn hT.ini c hc8 x hx64 w
        have hbx := heap_alloc_new wr (.cells #[.int .i64 (c : Int), .int .i64 x] 131)
        have h7a : BX (wr.alloc (.cells #[.int .i64 (c : Int), .int .i64 x] 131)) p7 rb := hT.x7.at (Below.heap_alloc _ _ _ (obj_lt hT.x7))
        have h8a : BX (wr.alloc (.cells #[.int .i64 (c : Int), .int .i64 x] 131)) p8 rn := hT.x8.at (Below.heap_alloc _ _ _ (obj_lt hT.x8))
        have hBa : Below w.heap.size w (wr.alloc (.cells #[.int .i64 (c : Int), .int .i64 x] 131)) := hT.blw.alloc hws _
        have hp7l := obj_lt hT.x7
        have hp8l := obj_lt hT.x8
        replace hcells := Lib.hid hcells
        replace hrng := Lib.hid hrng
        replace hT := Lib.hid hT
        replace hstep := Lib.hid hstep
        replace hp1 := Lib.hid hp1
        replace hp2 := Lib.hid hp2
        replace hq := Lib.hid hq
        replace hx64 := Lib.hid hx64
        go_upto_region 5 with (fail)
        change Code.wp _ _ _ _ (wr.alloc (.cells #[.int .i64 (c : Int), .int .i64 x] 131))
        generalize hv : wr.alloc (.cells #[.int .i64 (c : Int), .int .i64 x] 131) = v at *
        have hvs : v.heap.size = wr.heap.size + 1 := by rw [← hv]; simp
        have d0 : v.cell? ⟨wr.heap.size, 0, none⟩ = some (.int .i64 (c : Int)) := obj_cell hbx rfl
        have d1 : v.cell? ⟨wr.heap.size, 1, none⟩ = some (.int .i64 x) := obj_cell hbx rfl
        obtain ⟨y0, y1, y2, y3, y4, y5, y6, y7⟩ := h7a.cells
        replace hv := Lib.hid hv
        replace hbx := Lib.hid hbx
        replace h7a := Lib.hid h7a
        replace h8a := Lib.hid h8a
        replace hBa := Lib.hid hBa
        go_wp2_with fail
        clear y0 y1 y2 y3 y4 y5 y6 y7
        by_cases hI1 : In64 (rb c + x)
        · have hp1' := hp1.out v
          rw [plus_in hI1, (fitE_in hI1).2] at hp1'
          generalize hz1 : upd rb c (rb c + x) = f1 at *
          unfold r8 at hp1'
          replace hp1' := Lib.hid hp1'
          with_reducible refine hp1'.out.mono ?_
          rintro e w1 ⟨rfl, hb1⟩
          have hbx1 := (hb1.block _ (by omega)).trans hbx.out
          have h71 : BX w1 p7 rb := h7a.out.at (hb1.block _ (by omega))
          have h81 : BX w1 p8 rn := h8a.out.at (hb1.block _ (by omega))
          have hw1 := hb1.size
          have hv2s : (w1.alloc (.cells (r8 f1) 77)).heap.size = w1.heap.size + 1 := by simp
          have hnew : BX (w1.alloc (.cells (r8 f1) 77)) w1.heap.size f1 := BX.made w1 f1
          have hbx2 := (Below.heap_alloc w1 (.cells (r8 f1) 77) _ (by omega)).trans hbx1
          have h72 : BX (w1.alloc (.cells (r8 f1) 77)) p7 rb := h71.at (Below.heap_alloc _ _ _ (by omega))
          have h82 : BX (w1.alloc (.cells (r8 f1) 77)) p8 rn := h81.at (Below.heap_alloc _ _ _ (by omega))
          have hBb : Below w.heap.size w (w1.alloc (.cells (r8 f1) 77)) := (hBa.out.trans (hb1.mono (by omega))).alloc (by omega) _
          clear hbx1 h71 h81
          unfold r8 at hv2s hnew hbx2 h72 h82 hBb
          replace hb1 := Lib.hid hb1
          go_upto_region 8 with (fail)
          change Code.wp _ _ _ _ (w1.alloc (.cells #[.int .i64 (f1 0), .int .i64 (f1 1), .int .i64 (f1 2), .int .i64 (f1 3), .int .i64 (f1 4), .int .i64 (f1 5), .int .i64 (f1 6), .int .i64 (f1 7)] 77))
          generalize hv2 : w1.alloc (.cells #[.int .i64 (f1 0), .int .i64 (f1 1), .int .i64 (f1 2), .int .i64 (f1 3), .int .i64 (f1 4), .int .i64 (f1 5), .int .i64 (f1 6), .int .i64 (f1 7)] 77) = v2 at *
          have d0 : v2.cell? ⟨wr.heap.size, 0, none⟩ = some (.int .i64 (c : Int)) := obj_cell hbx2 rfl
          have d1 : v2.cell? ⟨wr.heap.size, 1, none⟩ = some (.int .i64 x) := obj_cell hbx2 rfl
          obtain ⟨y0, y1, y2, y3, y4, y5, y6, y7⟩ := h82.cells
          replace hv2 := Lib.hid hv2
          replace hnew := Lib.hid hnew
          replace hbx2 := Lib.hid hbx2
          replace h72 := Lib.hid h72
          replace h82 := Lib.hid h82
          replace hBb := Lib.hid hBb
          go_wp2_with fail
          clear y0 y1 y2 y3 y4 y5 y6 y7
          by_cases hI2 : In64 (rn c + x)
          · have hp2' := hp2.out v2
            rw [plus_in hI2, (fitE_in hI2).2] at hp2'
            generalize hz2 : upd rn c (rn c + x) = f2 at *
            unfold r8 at hp2'
            replace hp2' := Lib.hid hp2'
            with_reducible refine hp2'.out.mono ?_
            rintro e w2 ⟨rfl, hb2⟩
            have hw2 := hb2.size
            have hnew1 : BX w2 w1.heap.size f1 := hnew.out.at (hb2.block _ (by omega))
            have h73 : BX w2 p7 rb := h72.out.at (hb2.block _ (by omega))
            have h83 : BX w2 p8 rn := h82.out.at (hb2.block _ (by omega))
            have hv3s : (w2.alloc (.cells (r8 f2) 77)).heap.size = w2.heap.size + 1 := by simp
            have hnew2 : BX (w2.alloc (.cells (r8 f2) 77)) w2.heap.size f2 := BX.made w2 f2
            have hnew3 : BX (w2.alloc (.cells (r8 f2) 77)) w1.heap.size f1 := hnew1.at (Below.heap_alloc _ _ _ (by omega))
            have h74 : BX (w2.alloc (.cells (r8 f2) 77)) p7 rb := h73.at (Below.heap_alloc _ _ _ (by omega))
            have h84 : BX (w2.alloc (.cells (r8 f2) 77)) p8 rn := h83.at (Below.heap_alloc _ _ _ (by omega))
            have hBc2 : Below w.heap.size w (w2.alloc (.cells (r8 f2) 77)) := (hBb.out.trans (hb2.mono (by omega))).alloc (by omega) _
            clear hnew1 h73 h83
            unfold r8 at hv3s hnew2 hnew3 h74 h84 hBc2
            replace hb2 := Lib.hid hb2
            go_upto_region 11 with (fail)
            change Code.wp _ _ _ _ (w2.alloc (.cells #[.int .i64 (f2 0), .int .i64 (f2 1), .int .i64 (f2 2), .int .i64 (f2 3), .int .i64 (f2 4), .int .i64 (f2 5), .int .i64 (f2 6), .int .i64 (f2 7)] 77))
            generalize hv3 : w2.alloc (.cells #[.int .i64 (f2 0), .int .i64 (f2 1), .int .i64 (f2 2), .int .i64 (f2 3), .int .i64 (f2 4), .int .i64 (f2 5), .int .i64 (f2 6), .int .i64 (f2 7)] 77) = v3 at *
            have hne := hpp.out.1
            have hfin : MSt w l m cs p7 p8 (k + 1) f1 f2 (st8 (st8 v3 p7 0 f1) p8 0 f2).drew := by
              have hst := hstep.out
              rw [if_pos ⟨hI1, hI2⟩] at hst
              have a7 : BX v3 p7 rb := h74
              have a8 : BX v3 p8 rn := h84
              refine MSt.drew ⟨(a7.set f1).other f2 hne, (a8.other f1 (Ne.symm hne)).set f2, hst.symm, ?_, ?_, below_st8 (below_st8 hBc2 hpp.out.2.1 _ _) hpp.out.2.2 _ _⟩
              · rw [← hz1]; exact upd_in hT.out.ib hI1
              · rw [← hz2]; exact upd_in hT.out.ini hI2
            obtain ⟨y0, y1, y2, y3, y4, y5, y6, y7⟩ := hnew3.cells
            obtain ⟨s0, s1, s2, s3, s4, s5, s6, s7⟩ := hnew2.cells
            obtain ⟨r0, r1, r2, r3, r4, r5, r6, r7⟩ := h74.cells
            obtain ⟨t0, t1, t2, t3, t4, t5, t6, t7⟩ := h84.cells
            have z7 := obj_free h74
            have z8 := obj_free h84
            generalize hv4 : (st8 (st8 v3 p7 0 f1) p8 0 f2).drew = v4 at *
            replace hv4 := Lib.hid hv4
            replace hfin := Lib.hid hfin
            replace hv3 := Lib.hid hv3
            replace hnew2 := Lib.hid hnew2
            replace hnew3 := Lib.hid hnew3
            replace h74 := Lib.hid h74
            replace h84 := Lib.hid h84
            replace hBc2 := Lib.hid hBc2
            go_region
            all_goals go_upto_region 12 with (fail)
            all_goals change Code.wp _ _ _ _ (st8 (st8 v3 p7 0 f1) p8 0 f2).drew
            all_goals rw [hv4.out]
            all_goals go_wp2_with fail
            go_roundw
            case rel => exact ⟨k + 1, _, _, by omega, by go_num, hfin⟩
            case measure => simp [intOf]; omega
          · have hp2' := hp2.out v2
            rw [fitE_out hI2] at hp2'
            generalize plusR rn c x = f2 at *
            unfold r8 at hp2'
            replace hp2' := Lib.hid hp2'
            with_reducible refine hp2'.out.mono ?_
            rintro e w2 ⟨rfl, hb2⟩
            have hfin : Below w.heap.size w (w2.alloc (.cells (r8 f2) 77)) := (hBb.out.trans (hb2.mono (by omega))).alloc (by have := hb2.size; omega) _
            have hst := hstep.out
            rw [if_neg (fun h => hI2 h.2)] at hst
            unfold r8 at hfin
            replace hfin := Lib.hid hfin
            replace hst := Lib.hid hst
            replace hb2 := Lib.hid hb2
            replace hI1 := Lib.hid hI1
            replace hI2 := Lib.hid hI2
            go_wp2_with fail
            go_ret
            exact ⟨fun r hr => absurd hr (by rw [hst.out]; simp), fun _ => ⟨rfl, gB, cB, h.out.below hfin.out⟩, Kp.of_below hfin.out⟩
        · have hp1' := hp1.out v
          rw [fitE_out hI1] at hp1'
          generalize plusR rb c x = f2 at *
          unfold r8 at hp1'
          replace hp1' := Lib.hid hp1'
          with_reducible refine hp1'.out.mono ?_
          rintro e w2 ⟨rfl, hb2⟩
          have hfin : Below w.heap.size w (w2.alloc (.cells (r8 f2) 77)) := (hBa.out.trans (hb2.mono (by omega))).alloc (by have := hb2.size; omega) _
          have hst := hstep.out
          rw [if_neg (fun h => hI1 h.1)] at hst
          unfold r8 at hfin
          replace hfin := Lib.hid hfin
          replace hst := Lib.hid hst
          replace hb2 := Lib.hid hb2
          replace hI1 := Lib.hid hI1
          go_wp2_with fail
          go_ret
          exact ⟨fun r hr => absurd hr (by rw [hst.out]; simp), fun _ => ⟨rfl, gB, cB, h.out.below hfin.out⟩, Kp.of_below hfin.out⟩
      · obtain rfl : k = len := by omega
        have hkz : ¬ (k : Int) < (k : Int) := by omega
        have hT := hS.out
        have hgo := hT.go
        rw [← hcs.out.1, List.drop_length] at hgo
        have hL := h.out.below hT.blw
        have c9 := hL.c9
        have c1 := hL.ncells
        have hne : p7 ≠ b ∧ p8 ≠ b ∧ p7 ≠ gB ∧ p8 ≠ gB := by have := hpp.out; omega
        have hbg : gB ≠ b := by
          rintro rfl
          have h1 := hL.obj
          obtain ⟨cs', h2, _⟩ := hL.bal
          rw [h1] at h2
          simp at h2
        obtain ⟨y0, y1, y2, y3, y4, y5, y6, y7⟩ := hT.x7.cells
        obtain ⟨s0, s1, s2, s3, s4, s5, s6, s7⟩ := hT.x8.cells
        obtain ⟨n0, n1, n2, n3, n4, n5, n6, n7⟩ := hL.ncells
        obtain ⟨b0, b1, b2, b3, b4, b5, b6, b7⟩ := hL.bal.cells hm
        have zb := obj_free hL.obj
        have zg := hL.bal.free
        have hfin : PLv P (st8 (st8 wr gB (m * 8) rb) b 1 rn).drew b ⟨l.nm, l.nc, updR l.B m rb, rn⟩ gB cB := by
          have hs1 := hL.bal.set hm rb
          have ho1 := (st8_other wr (m * 8) rb (Ne.symm hbg)).trans hL.obj
          exact PLv.drew ⟨lObj_set ho1 rn, hs1.at (st8_other _ _ _ hbg), hL.nm, hL.nc, hL.own⟩
        have hKf : Kp P w (st8 (st8 wr gB (m * 8) rb) b 1 rn).drew := (Kp.st8 (Kp.st8 (Kp.of_below hT.blw) (.inl h.out.own.2) _ _) (.inl h.out.own.1) _ _).drew
        generalize hv4 : (st8 (st8 wr gB (m * 8) rb) b 1 rn).drew = v4 at *
        replace hv4 := Lib.hid hv4
        obtain ⟨e1, e2, e3, e4⟩ := hne
        replace hfin := Lib.hid hfin
        replace hKf := Lib.hid hKf
        replace hL := Lib.hid hL
        replace hT := Lib.hid hT
        replace hgo := Lib.hid hgo
        clear c1
        go_upto_region 13 with (fail)
        go_region
        all_goals go_upto_region 14 with (fail)
        all_goals change Code.wp _ _ _ _ (st8 (st8 wr gB (m * 8) rb) b 1 rn).drew
        all_goals rw [hv4.out]
        all_goals go_wp2_with fail
        all_goals go_ret
        all_goals exact ⟨fun r hr => ⟨rfl, by
          have hg := hgo.out
          rw [hr] at hg
          injection hg with hg
          rw [← hg]
          exact ⟨gB, cB, hfin.out⟩⟩, fun hr => absurd hr (by rw [← hgo.out]; simp [mvR]), hKf.out⟩
end Go.Proofs.YtiehbbhjpcnbnaaGreat
namespace Go.Proofs.YtiehbbhjpcnbnaaGreat
open Go.RowKit
set_option linter.unusedVariables false

theorem chR1 (w : World) (c : Nat) (x : Int) (hc : c < 8) (hx : In64 x) : ChR (w.alloc (.cells #[.int .i64 (c : Int), .int .i64 x] 131)) (some ⟨w.heap.size, 0, none⟩) 1 [(c, x)] := by
  refine ⟨rfl, fun q hq => by obtain rfl := List.mem_singleton.1 hq; exact ⟨hc, hx⟩, _, rfl, by simp, fun i q hq => ?_⟩
  have hb := heap_alloc_new w (.cells #[.int .i64 (c : Int), .int .i64 x] 131)
  match i with
  | 0 => injection hq with hq; rw [← hq]; exact ⟨obj_cell hb rfl, obj_cell hb rfl⟩
  | i + 1 => simp at hq
theorem chR2 (w : World) (c : Nat) (x : Int) (d : Nat) (y : Int) (hc : c < 8) (hx : In64 x) (hd : d < 8) (hy : In64 y) : ChR (w.alloc (.cells #[.int .i64 (c : Int), .int .i64 x, .int .i64 (d : Int), .int .i64 y] 131)) (some ⟨w.heap.size, 0, none⟩) 2 [(c, x), (d, y)] := by
  refine ⟨rfl, fun q hq => ?_, _, rfl, by simp, fun i q hq => ?_⟩
  · simp at hq
    rcases hq with rfl | rfl
    · exact ⟨hc, hx⟩
    · exact ⟨hd, hy⟩
  have hb := heap_alloc_new w (.cells #[.int .i64 (c : Int), .int .i64 x, .int .i64 (d : Int), .int .i64 y] 131)
  match i with
  | 0 => injection hq with hq; rw [← hq]; exact ⟨obj_cell hb rfl, obj_cell hb rfl⟩
  | 1 => injection hq with hq; rw [← hq]; exact ⟨obj_cell hb rfl, obj_cell hb rfl⟩
  | i + 2 => simp at hq
theorem updR_upd (B : Nat → Nat → Int) (m c : Nat) (x : Int) : updR B m (upd (B m) c x) = upd2 B m c x := by
  funext a b
  unfold updR upd2 upd
  by_cases e : a = m
  · subst e; simp
  · simp [e]
theorem PL.cast {P : Nat → Prop} {w : World} {b : Nat} {l k : LM} (h : PL P w b l) (e : l = k) : PL P w b k := e ▸ h
theorem mv1 (c : Nat) (x : Int) (b n : Nat → Int) : mvR [(c, x)] b n = if In64 (b c + x) ∧ In64 (n c + x) then some (upd b c (b c + x), upd n c (n c + x)) else none := rfl

set_option maxHeartbeats 4000000 in
set_option maxRecDepth 100000 in
theorem in_any (P : Nat → Prop) (b : Nat) (l : LM) (m c a : Int) (w : World) (h0 : PL P w b l) (hg : l.Good) (ha : In64 a) (hP : ∀ i, w.heap.size ≤ i → P i) :
    Calls Tryz.prog 44 #[.pointer (some ⟨b, 0, none⟩), .int .i64 m, .int .i64 c, .int .i64 a] w fun e w' => e = .returned (.int .i64 (l.inn m c a).1) ∧ PL P w' b (l.inn m c a).2 ∧ Kp P w w' := by
  obtain ⟨gB, cB, h⟩ := h0
  have hH := hasL_any m c w h
  have hL : PL P w b l := ⟨gB, cB, h⟩
  unfold LM.inn
  cases hh : l.has m c with
  | false =>
    rw [if_neg (by simp)]
    rw [hh] at hH
    replace hH := Lib.hid hH
    replace hh := Lib.hid hh
    replace h := Lib.hid h
    replace hL := Lib.hid hL
    replace hg := Lib.hid hg
    go_enter Tryz.func44, Tryz.ntmps44
    go_wp2_with fail
    with_reducible refine hH.out.mono ?_
    rintro e w1 ⟨rfl, rfl⟩
    go_wp2_with fail
    go_ret
    exact ⟨rfl, hL.out, Kp.refl _ _⟩
  | true =>
    by_cases h1 : 1 ≤ a
    · rw [if_pos ⟨rfl, h1⟩]
      obtain ⟨i, j, rfl, rfl, hi, hj⟩ := LM.has_nat hh
      have hn8 := h.nc
      have hj8 : j < 8 := by omega
      simp only [Int.toNat_natCast]
      rw [hh] at hH
      have hBa : Below w.heap.size w (w.alloc (.cells #[.int .i64 (j : Int), .int .i64 a] 131)) := (Below.refl _ _).alloc (Nat.le_refl _) _
      have hm := move_any P b l gB cB i (some ⟨w.heap.size, 0, none⟩) 1 1 [(j, a)] (w.alloc (.cells #[.int .i64 (j : Int), .int .i64 a] 131)) (h.below hBa) hi (fun c => hg.ok.b i c) hg.ok.n (chR1 w j a hj8 ha) (by omega) (fun q hq => hP q (by simp at hq; omega))
      have hfin : ∀ e w', MvP P b l i [(j, a)] (w.alloc (.cells #[.int .i64 (j : Int), .int .i64 a] 131)) e w' → (∃ x : Int, e = .returned (.int .i64 x)) ∧ (e = .returned (.int .i64 (if In64 (l.B i j + a) ∧ In64 (l.N j + a) then ((0 : Int), (⟨l.nm, l.nc, upd2 l.B i j (l.B i j + a), upd l.N j (l.N j + a)⟩ : LM)) else (3, l)).1) ∧ PL P w' b (if In64 (l.B i j + a) ∧ In64 (l.N j + a) then ((0 : Int), (⟨l.nm, l.nc, upd2 l.B i j (l.B i j + a), upd l.N j (l.N j + a)⟩ : LM)) else (3, l)).2 ∧ Kp P w w') := by
        rintro e w' ⟨hA, hB, hK⟩
        rw [mv1] at hA hB
        by_cases hI : In64 (l.B i j + a) ∧ In64 (l.N j + a)
        · rw [if_pos hI] at hA
          rw [if_pos hI]
          obtain ⟨e1, e2⟩ := hA _ rfl
          exact ⟨⟨_, e1⟩, e1, e2.cast (by rw [updR_upd]), (Kp.of_below hBa).trans hK⟩
        · rw [if_neg hI] at hB
          rw [if_neg hI]
          obtain ⟨e1, e2⟩ := hB rfl
          exact ⟨⟨_, e1⟩, e1, e2, (Kp.of_below hBa).trans hK⟩
      generalize (if In64 (l.B i j + a) ∧ In64 (l.N j + a) then ((0 : Int), (⟨l.nm, l.nc, upd2 l.B i j (l.B i j + a), upd l.N j (l.N j + a)⟩ : LM)) else (3, l)) = R at *
      replace hH := Lib.hid hH
      replace hh := Lib.hid hh
      replace h := Lib.hid h
      replace hL := Lib.hid hL
      replace hg := Lib.hid hg
      replace hm := Lib.hid hm
      replace hfin := Lib.hid hfin
      replace hBa := Lib.hid hBa
      go_enter Tryz.func44, Tryz.ntmps44
      go_wp2_with fail
      with_reducible refine hH.out.mono ?_
      rintro e w1 ⟨rfl, rfl⟩
      go_wp2_with fail
      with_reducible refine hm.out.mono ?_
      rintro e w2 hM
      obtain ⟨⟨x, rfl⟩, hF⟩ := hfin.out _ _ hM
      replace hM := Lib.hid hM
      replace hF := Lib.hid hF
      go_wp2_with fail
      go_ret
      exact hF.out
    · rw [if_neg (fun h => h1 h.2)]
      rw [hh] at hH
      replace hH := Lib.hid hH
      replace hh := Lib.hid hh
      replace h := Lib.hid h
      replace hL := Lib.hid hL
      replace hg := Lib.hid hg
      go_enter Tryz.func44, Tryz.ntmps44
      go_wp2_with fail
      with_reducible refine hH.out.mono ?_
      rintro e w1 ⟨rfl, rfl⟩
      go_wp2_with fail
      go_ret
      exact ⟨rfl, hL.out, Kp.refl _ _⟩

theorem neg_in {a : Int} (h1 : 1 ≤ a) (h : In64 a) : In64 (-a) := by unfold In64 at *; omega
end Go.Proofs.YtiehbbhjpcnbnaaGreat
