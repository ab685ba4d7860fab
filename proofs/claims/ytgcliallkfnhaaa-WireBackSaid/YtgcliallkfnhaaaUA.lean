/- The contracts of wire's lay, take, isId. -/
import Derived.Test.YtgcliallkfnhaaaW2
import Derived.Laws.AppendOwn
namespace Go.Proofs.Ytgcliallkfnhaaa
open Go.RowKit
set_option linter.unusedVariables false

theorem or_byte (m b : Nat) (hm : m < 72057594037927936) (hb : b < 256) : bits .or .i64 (IntKind.i64.wrap ((m * 256 : Nat) : Int)) (b : Int) = toI (m * 256 + b) := by
  have e1 : BitVec.ofInt IntKind.i64.bits (IntKind.i64.wrap ((m * 256 : Nat) : Int)) = BitVec.ofNat IntKind.i64.bits (m * 256) := by
    apply BitVec.eq_of_toNat_eq
    rw [BitVec.toNat_ofInt, BitVec.toNat_ofNat]
    unfold IntKind.wrap
    simp [IntKind.bits, IntKind.signed]
    split <;> omega
  have e2 : BitVec.ofInt IntKind.i64.bits (b : Int) = BitVec.ofNat IntKind.i64.bits b := by
    apply BitVec.eq_of_toNat_eq
    rw [BitVec.toNat_ofInt, BitVec.toNat_ofNat]
    simp [IntKind.bits]
    omega
  have e3 : m * 256 ||| b = m * 256 + b := by
    have := Nat.shiftLeft_add_eq_or_of_lt (b := b) (i := 8) (by omega) m
    rw [Nat.shiftLeft_eq] at this
    exact this.symm
  unfold bits
  rw [e1, e2]
  simp only [BitVec.toNat_or, BitVec.toNat_ofNat]
  have h1 : (2 : Nat) ^ IntKind.i64.bits = 18446744073709551616 := by decide
  rw [h1, Nat.mod_eq_of_lt (by omega), Nat.mod_eq_of_lt (by omega), e3]
  unfold toI IntKind.wrap
  simp [IntKind.bits, IntKind.signed]
  split <;> omega
theorem wrap_shl (m : Nat) : IntKind.i64.wrap (toI m * 256) = IntKind.i64.wrap ((m * 256 : Nat) : Int) := by
  unfold toI IntKind.wrap
  simp [IntKind.bits, IntKind.signed]
  split <;> (repeat' split) <;> omega
theorem shr_byte (n : Int) (q : Nat) (hq : q ≤ 7) : (n / ((2 : Int) ^ (8 * q))) % 256 = (((toU n / 256 ^ q) % 256 : Nat) : Int) := by
  have h : q = 0 ∨ q = 1 ∨ q = 2 ∨ q = 3 ∨ q = 4 ∨ q = 5 ∨ q = 6 ∨ q = 7 := by omega
  unfold toU
  rcases h with rfl | rfl | rfl | rfl | rfl | rfl | rfl | rfl <;> simp only [Nat.reduceMul, Nat.reducePow, Int.reducePow] <;> omega

/-- a byte behind a row's: where the row lies then -/
theorem appB_run (w : World) (v : Value) (l : List UInt8) (h : Row w v l) (a : Addr) (x : UInt8) (hx : w.cell? (a.add 0) = some (.int .u8 (x.toNat : Int))) (hs : l.length + 1 ≤ 16777216) :
    ∃ v' w', (Builtin.append_ #[51, 51] 51 #[v, .slice (some a) 1 1]).run Try.prog w = .ok v' w' ∧ Row w' v' (l ++ [x]) ∧ w.grownBy w' v.ownBlock ∧ (∀ g, v'.ownBlock = some g → v.ownBlock = some g ∨ w.heap.size ≤ g) := by
  obtain ⟨i, hi, hz0, hz1, hz2⟩ := info_parts Try.info5
  have hnews : ∀ j u, [Value.int .u8 (x.toNat : Int)][j]? = some u → w.cell? (a.add j) = some u := fun j u hu => by
    match j with
    | 0 => injection hu with hu; rw [← hu]; exact hx
    | j + 1 => simp at hu
  have h1 : ∀ u ∈ [Value.int .u8 (x.toNat : Int)], u.oneCell' = true := fun u hu => by obtain rfl := List.mem_singleton.1 hu; rfl
  obtain ⟨v', w', hr, ho, hg, _⟩ := run_append_own (P := Try.prog) w 0 51 51 5 i (.int .u8 0) 1 1 Try.underlying51 hi hz0 hz1 hz2 rfl (by decide) v l.length (Lib.byteCells l) h a 1 1 _ rfl hnews h1 (by unfold maxLen; omega) (by omega) (by omega)
  have hrow : Row w' v' (l ++ [x]) := by
    unfold Row
    rw [List.length_append]
    have e : Lib.byteCells (l ++ [x]) = Lib.byteCells l ++ [Value.int .u8 (x.toNat : Int)] := by simp [Lib.byteCells]
    rw [e]; exact ho
  refine ⟨v', w', hr, hrow, hg, fun g hv => ?_⟩
  rcases h.2 with ⟨rfl, h0⟩ | ⟨g', cap, cur, rfl, hb, hh, hn, hc, hcs, ht⟩
  · obtain ⟨v2, w2, hr2, ho2, _⟩ := run_append_own (P := Try.prog) w w.heap.size 51 51 5 i (.int .u8 0) 1 1 Try.underlying51 hi hz0 hz1 hz2 rfl (by decide) (.slice none 0 0) 0 [] (World.ownsRow_nil w _ 5 1) a 1 1 _ rfl hnews h1 (by unfold maxLen; omega) (by omega) (by omega)
    rw [hr] at hr2
    injection hr2 with e1 e2
    subst e1; subst e2
    exact .inr (World.ownsRow.lt ho2 g hv).1
  · by_cases hroom : l.length + 1 ≤ cap
    · have hr2 := run_append_room (P := Try.prog) w 51 51 5 i Try.underlying51 hi g' l.length cap cur hh a 1 1 _ (by rw [hz1]; rfl) hnews h1 hroom (by rw [hz1, hcs]; simp; omega)
      rw [hr] at hr2
      injection hr2 with e1 e2
      subst e1
      exact .inl hv
    · have holds : ∀ j u, (Lib.byteCells l)[j]? = some u → w.cell? ((⟨g', 0, none⟩ : Addr).add j) = some u := World.ownsRow.cells h (g := g') rfl
      have hr2 := run_append_grow (P := Try.prog) w 51 51 5 i (.int .u8 0) Try.underlying51 hi hz0 ⟨g', 0, none⟩ l.length cap (Lib.byteCells l) (by rw [hz1]; simp [Lib.byteCells]) holds a 1 1 _ (by rw [hz1]; rfl) hnews (by omega) (by omega) (by rw [hz2]; exact growslice_fits (by omega) (by omega))
      rw [hr] at hr2
      injection hr2 with e1 e2
      subst e1
      simp [Value.ownBlock] at hv
      exact .inr (by omega)
theorem wpList_appB {ops : Array Oper} {rest : List Oper} {o : Oper} {a : Act} {w : World} {Q : Exit → Act → World → Prop} (hgd : o.guard = none) (sl x : Operand) (hty : o.type = 51)
    (ho : o.op = .call { callee := .builtin .append, args := #[sl, x], argTypes := #[51, 51] })
    (v : Value) (l : List UInt8) (hs : a.eval sl = v) (hrow : Row w v l) (b : Addr) (y : Int) (hx : a.eval x = .slice (some b) 1 1) (hy : w.cell? (b.add 0) = some (.int .u8 y)) (z : UInt8) (hz : y = (z.toNat : Int)) (hn : l.length + 1 ≤ 16777216)
    (h : ∀ v' w', Row w' v' (l ++ [z]) → w.grownBy w' v.ownBlock → (∀ g, v'.ownBlock = some g → v.ownBlock = some g ∨ w.heap.size ≤ g) → wpList Try.prog ops Q rest (a.put o.dst v') w') : wpList Try.prog ops Q (o :: rest) a w := by
  subst hz
  refine wpList_plain hgd fun K hK => ?_
  obtain ⟨v', w', hr, h2, h3, h4⟩ := appB_run w v l hrow b z hy hn
  unfold Oper.wp execOp
  simp only [ho, hty, resolve, invoke, builtin, Sem.run_bind, Sem.run_pure, Result.andThen_ok, List.map_toArray, List.map_cons, List.map_nil, hs, hx, hr]
  exact hK _ _ (h v' w' h2 h3 h4)

theorem byte_nat (x : Nat) : ((UInt8.ofNat (x % 256)).toNat : Int) = ((x % 256 : Nat) : Int) := by
  rw [UInt8.toNat_ofNat']
  omega
/-- bytes are laid behind a row's -/
structure Laid (w wr : World) (v b : Value) (l : List UInt8) : Prop where
  row : Row wr b l
  kp : Kp (fun j => v.ownBlock = some j) w wr
  own : ∀ g, b.ownBlock = some g → v.ownBlock = some g ∨ w.heap.size ≤ g
theorem bes_take_succ (k n q : Nat) (hq : q < k) : (bes k n).take (k - q) = (bes k n).take (k - (q + 1)) ++ [UInt8.ofNat (n / 256 ^ q % 256)] := by
  induction k with
  | zero => omega
  | succ k ih =>
    by_cases e : q = k
    · subst e
      rw [show q + 1 - q = 1 by omega, show q + 1 - (q + 1) = 0 by omega]
      rfl
    · rw [show k + 1 - q = (k - q) + 1 by omega, show k + 1 - (q + 1) = (k - (q + 1)) + 1 by omega, bes, List.take_succ_cons, List.take_succ_cons, List.cons_append, ← ih (by omega)]

set_option maxHeartbeats 2000000 in
set_option maxRecDepth 100000 in
theorem lay31_any (v : Value) (l : List UInt8) (n : Int) (k : Nat) (w : World) (hr : Row w v l) (hk : k ≤ 8) (hl : l.length ≤ 16000000) :
    Calls Try.prog 31 #[v, .int .i64 n, .int .i64 (k : Int)] w fun e w' => ∃ b, e = .returned b ∧ Laid w w' v b (l ++ bes k (toU n)) := by
  have h0 : Laid w w v v (l ++ (bes k (toU n)).take (k - k)) := ⟨by rw [Nat.sub_self, List.take_zero, List.append_nil]; exact hr, Kp.refl _ _, fun g h => .inl h⟩
  have hkw : IntKind.i64.wrap ((k : Int) - 1) = (k : Int) - 1 := by rw [IntKind.wrap_i64] <;> omega
  replace h0 := Lib.hid h0
  replace hr := Lib.hid hr
  go_enter Try.func31, Try.ntmps31
  go_wp2_with fail
  go_loopw [0, 7] (fun b i wr => ∃ q : Nat, q ≤ k ∧ i = .int .i64 ((q : Int) - 1) ∧ Hid (Laid w wr v b (l ++ (bes k (toU n)).take (k - q)))) (fun _ i _ => (intOf i + 1).toNat)
  case atStart => exact ⟨k, by omega, rfl, h0⟩
  case round =>
    obtain ⟨q, hq, rfl, hS⟩ := hrel
    by_cases hq0 : 0 < q
    · obtain ⟨p, rfl⟩ : ∃ p, q = p + 1 := ⟨q - 1, by omega⟩
      have hkz : (((p + 1 : Nat) : Int) - 1) = (p : Int) := by omega
      rw [hkz]
      have hz0 : (0 : Int) ≤ (p : Int) := by omega
      have hw8 : IntKind.i64.wrap (8 * (p : Int)) = 8 * (p : Int) := by rw [IntKind.wrap_i64] <;> omega
      have hst := hS.out
      obtain ⟨pp, cap, hsh, _, _⟩ := hst.row.shape
      have hll : (l ++ (bes k (toU n)).take (k - (p + 1))).length ≤ 16000008 := by rw [List.length_append, List.length_take]; omega
      have hbs := bes_take_succ k (toU n) p (by omega)
      have hrow2 : ∀ o, Row (wr.alloc o) u0 (l ++ (bes k (toU n)).take (k - (p + 1))) := fun o => hst.row.kept fun g hg => Below.heap_alloc _ _ _ (hst.row.lt g hg)
      have hkp2 : ∀ o, Kp (fun j => v.ownBlock = some j) w (wr.alloc o) := fun o => hst.kp.alloc o
      have hby := shr_byte n p (by omega)
      have hlt : toU n / 256 ^ p % 256 < 256 := Nat.mod_lt _ (by decide)
      replace hrow2 := Lib.hid hrow2
      replace hkp2 := Lib.hid hkp2
      replace hst := Lib.hid hst
      replace hbs := Lib.hid hbs
      replace hby := Lib.hid hby
      replace hsh := Lib.hid hsh
      go_wp2_with (at_builtin; refine wpList_appB rfl _ _ rfl rfl _ (l ++ (bes k (toU n)).take (k - (p + 1))) rfl (hrow2.out _) ⟨wr.heap.size, 0, none⟩ _ rfl (obj_cell (heap_alloc_new wr _) rfl) (UInt8.ofNat (toU n / 256 ^ p % 256)) ?hzz (by omega) ?_)
      case hzz => rw [hby.out, byte_nat]
      intro v' w' hr' hg hv'
      go_wp2_with fail
      go_roundw
      case rel =>
        refine ⟨p, by omega, by go_num, Lib.hid ⟨?_, (hkp2.out _).grown hg ?_, ?_⟩⟩
        · rw [hbs.out]; exact hr'
        · intro g hg'
          exact hst.out.own g hg'
        · intro g hg'
          have hz := hst.out.kp.size
          rcases hv' g hg' with h1 | h1
          · exact hst.out.own g h1
          · exact .inr (by first | omega | (simp at h1; omega))
      case measure => simp [intOf]
    · obtain rfl : q = 0 := by omega
      have hz0 : ¬ (0 : Int) ≤ ((0 : Nat) : Int) - 1 := by omega
      rw [Nat.sub_zero, List.take_of_length_le (by rw [bes_length]; omega)] at hS
      go_wp2_with fail
      go_ret
      exact ⟨_, rfl, hS.out⟩
set_option maxHeartbeats 2000000 in
set_option maxRecDepth 100000 in
theorem lay30_any (v : Value) (l : List UInt8) (n : Int) (k : Nat) (w : World) (hr : Row w v l) (hk : k ≤ 8) (hl : l.length ≤ 16000000) :
    Calls Try.prog 30 #[v, .int .i64 n, .int .i64 (k : Int)] w fun e w' => ∃ b, e = .returned b ∧ Laid w w' v b (l ++ bes k (toU n)) := by
  have h0 : Laid w w v v (l ++ (bes k (toU n)).take (k - k)) := ⟨by rw [Nat.sub_self, List.take_zero, List.append_nil]; exact hr, Kp.refl _ _, fun g h => .inl h⟩
  have hkw : IntKind.i64.wrap ((k : Int) - 1) = (k : Int) - 1 := by rw [IntKind.wrap_i64] <;> omega
  replace h0 := Lib.hid h0
  replace hr := Lib.hid hr
  go_enter Try.func30, Try.ntmps30
  go_wp2_with fail
  go_loopw [0, 7] (fun b i wr => ∃ q : Nat, q ≤ k ∧ i = .int .i64 ((q : Int) - 1) ∧ Hid (Laid w wr v b (l ++ (bes k (toU n)).take (k - q)))) (fun _ i _ => (intOf i + 1).toNat)
  case atStart => exact ⟨k, by omega, rfl, h0⟩
  case round =>
    obtain ⟨q, hq, rfl, hS⟩ := hrel
    by_cases hq0 : 0 < q
    · obtain ⟨p, rfl⟩ : ∃ p, q = p + 1 := ⟨q - 1, by omega⟩
      have hkz : (((p + 1 : Nat) : Int) - 1) = (p : Int) := by omega
      rw [hkz]
      have hz0 : (0 : Int) ≤ (p : Int) := by omega
      have hw8 : IntKind.i64.wrap (8 * (p : Int)) = 8 * (p : Int) := by rw [IntKind.wrap_i64] <;> omega
      have hst := hS.out
      obtain ⟨pp, cap, hsh, _, _⟩ := hst.row.shape
      have hll : (l ++ (bes k (toU n)).take (k - (p + 1))).length ≤ 16000008 := by rw [List.length_append, List.length_take]; omega
      have hbs := bes_take_succ k (toU n) p (by omega)
      have hrow2 : ∀ o, Row (wr.alloc o) u0 (l ++ (bes k (toU n)).take (k - (p + 1))) := fun o => hst.row.kept fun g hg => Below.heap_alloc _ _ _ (hst.row.lt g hg)
      have hkp2 : ∀ o, Kp (fun j => v.ownBlock = some j) w (wr.alloc o) := fun o => hst.kp.alloc o
      have hby := shr_byte n p (by omega)
      have hlt : toU n / 256 ^ p % 256 < 256 := Nat.mod_lt _ (by decide)
      replace hrow2 := Lib.hid hrow2
      replace hkp2 := Lib.hid hkp2
      replace hst := Lib.hid hst
      replace hbs := Lib.hid hbs
      replace hby := Lib.hid hby
      replace hsh := Lib.hid hsh
      go_wp2_with (at_builtin; refine wpList_appB rfl _ _ rfl rfl _ (l ++ (bes k (toU n)).take (k - (p + 1))) rfl (hrow2.out _) ⟨wr.heap.size, 0, none⟩ _ rfl (obj_cell (heap_alloc_new wr _) rfl) (UInt8.ofNat (toU n / 256 ^ p % 256)) ?hzz (by omega) ?_)
      case hzz => rw [hby.out, byte_nat]
      intro v' w' hr' hg hv'
      go_wp2_with fail
      go_roundw
      case rel =>
        refine ⟨p, by omega, by go_num, Lib.hid ⟨?_, (hkp2.out _).grown hg ?_, ?_⟩⟩
        · rw [hbs.out]; exact hr'
        · intro g hg'
          exact hst.out.own g hg'
        · intro g hg'
          have hz := hst.out.kp.size
          rcases hv' g hg' with h1 | h1
          · exact hst.out.own g h1
          · exact .inr (by first | omega | (simp at h1; omega))
      case measure => simp [intOf]
    · obtain rfl : q = 0 := by omega
      have hz0 : ¬ (0 : Int) ≤ ((0 : Nat) : Int) - 1 := by omega
      rw [Nat.sub_zero, List.take_of_length_le (by rw [bes_length]; omega)] at hS
      go_wp2_with fail
      go_ret
      exact ⟨_, rfl, hS.out⟩
set_option maxHeartbeats 2000000 in
set_option maxRecDepth 100000 in
theorem lay32_any (v : Value) (l : List UInt8) (n : Int) (k : Nat) (w : World) (hr : Row w v l) (hk : k ≤ 8) (hl : l.length ≤ 16000000) :
    Calls Try.prog 32 #[v, .int .i64 n, .int .i64 (k : Int)] w fun e w' => ∃ b, e = .returned b ∧ Laid w w' v b (l ++ bes k (toU n)) := by
  have h0 : Laid w w v v (l ++ (bes k (toU n)).take (k - k)) := ⟨by rw [Nat.sub_self, List.take_zero, List.append_nil]; exact hr, Kp.refl _ _, fun g h => .inl h⟩
  have hkw : IntKind.i64.wrap ((k : Int) - 1) = (k : Int) - 1 := by rw [IntKind.wrap_i64] <;> omega
  replace h0 := Lib.hid h0
  replace hr := Lib.hid hr
  go_enter Try.func32, Try.ntmps32
  go_wp2_with fail
  go_loopw [0, 7] (fun b i wr => ∃ q : Nat, q ≤ k ∧ i = .int .i64 ((q : Int) - 1) ∧ Hid (Laid w wr v b (l ++ (bes k (toU n)).take (k - q)))) (fun _ i _ => (intOf i + 1).toNat)
  case atStart => exact ⟨k, by omega, rfl, h0⟩
  case round =>
    obtain ⟨q, hq, rfl, hS⟩ := hrel
    by_cases hq0 : 0 < q
    · obtain ⟨p, rfl⟩ : ∃ p, q = p + 1 := ⟨q - 1, by omega⟩
      have hkz : (((p + 1 : Nat) : Int) - 1) = (p : Int) := by omega
      rw [hkz]
      have hz0 : (0 : Int) ≤ (p : Int) := by omega
      have hw8 : IntKind.i64.wrap (8 * (p : Int)) = 8 * (p : Int) := by rw [IntKind.wrap_i64] <;> omega
      have hst := hS.out
      obtain ⟨pp, cap, hsh, _, _⟩ := hst.row.shape
      have hll : (l ++ (bes k (toU n)).take (k - (p + 1))).length ≤ 16000008 := by rw [List.length_append, List.length_take]; omega
      have hbs := bes_take_succ k (toU n) p (by omega)
      have hrow2 : ∀ o, Row (wr.alloc o) u0 (l ++ (bes k (toU n)).take (k - (p + 1))) := fun o => hst.row.kept fun g hg => Below.heap_alloc _ _ _ (hst.row.lt g hg)
      have hkp2 : ∀ o, Kp (fun j => v.ownBlock = some j) w (wr.alloc o) := fun o => hst.kp.alloc o
      have hby := shr_byte n p (by omega)
      have hlt : toU n / 256 ^ p % 256 < 256 := Nat.mod_lt _ (by decide)
      replace hrow2 := Lib.hid hrow2
      replace hkp2 := Lib.hid hkp2
      replace hst := Lib.hid hst
      replace hbs := Lib.hid hbs
      replace hby := Lib.hid hby
      replace hsh := Lib.hid hsh
      go_wp2_with (at_builtin; refine wpList_appB rfl _ _ rfl rfl _ (l ++ (bes k (toU n)).take (k - (p + 1))) rfl (hrow2.out _) ⟨wr.heap.size, 0, none⟩ _ rfl (obj_cell (heap_alloc_new wr _) rfl) (UInt8.ofNat (toU n / 256 ^ p % 256)) ?hzz (by omega) ?_)
      case hzz => rw [hby.out, byte_nat]
      intro v' w' hr' hg hv'
      go_wp2_with fail
      go_roundw
      case rel =>
        refine ⟨p, by omega, by go_num, Lib.hid ⟨?_, (hkp2.out _).grown hg ?_, ?_⟩⟩
        · rw [hbs.out]; exact hr'
        · intro g hg'
          exact hst.out.own g hg'
        · intro g hg'
          have hz := hst.out.kp.size
          rcases hv' g hg' with h1 | h1
          · exact hst.out.own g h1
          · exact .inr (by first | omega | (simp at h1; omega))
      case measure => simp [intOf]
    · obtain rfl : q = 0 := by omega
      have hz0 : ¬ (0 : Int) ≤ ((0 : Nat) : Int) - 1 := by omega
      rw [Nat.sub_zero, List.take_of_length_le (by rw [bes_length]; omega)] at hS
      go_wp2_with fail
      go_ret
      exact ⟨_, rfl, hS.out⟩

set_option maxHeartbeats 2000000 in
set_option maxRecDepth 100000 in
theorem take34_any (s : ByteArray) (k : Nat) (w : World) (hk : k ≤ 8) (hs : k ≤ s.size) (hsz : s.size ≤ 1000000) :
    Calls Try.prog 34 #[.string s, .int .i64 (k : Int)] w fun e w' => e = .returned (.tuple #[.int .i64 (toI (vls ((bl s).take k))), .string (s.extract k s.size)]) ∧ ∃ nq, w' = w.drewN nq := by
  have hbl := bl_length s
  go_enter Try.func34, Try.ntmps34
  go_wp2_with fail
  go_loop [6, 9] (fun n i => ∃ q : Nat, q ≤ k ∧ i = .int .i64 (q : Int) ∧ n = .int .i64 (toI (vls ((bl s).take q)))) (fun _ i => k - (intOf i).toNat)
  case atStart => exact ⟨0, by omega, rfl, rfl⟩
  case round =>
    obtain ⟨q, hq, rfl, rfl⟩ := hrel
    by_cases hqk : q < k
    · have kz : (q : Int) < (k : Int) := by omega
      have hqs : q < s.size := by omega
      have hqz : (q : Int) < (s.size : Int) := by omega
      have hsu := vls_take_succ (bl s) q (by omega)
      have hb : (bl s)[q]'(by omega) = s[q] := rfl
      rw [hb] at hsu
      have hlt := vls_lt ((bl s).take q)
      rw [List.length_take, Nat.min_eq_left (by omega)] at hlt
      have h7 : (256 : Nat) ^ q ≤ 256 ^ 7 := Nat.pow_le_pow_right (by omega) (by omega)
      have h77 : (256 : Nat) ^ 7 = 72057594037927936 := by decide
      have hb2 := s[q].toNat_lt
      have hor := or_byte (vls ((bl s).take q)) s[q].toNat (by omega) (by omega)
      rw [← wrap_shl] at hor
      rw [← hsu, IntWalk.i64_left] at hor
      generalize toI (vls ((bl s).take q)) = m at *
      replace hor := Lib.hid hor
      clear hsu hlt h7 h77 hb
      go_wp2_with fail
      go_round
      case rel => exact ⟨q + 1, by omega, by go_num, congrArg (Value.int .i64) hor.out⟩
      case measure => simp [intOf]; omega
    · obtain rfl : q = k := by omega
      have kz : ¬ (q : Int) < (q : Int) := by omega
      have hkz : (q : Int) ≤ (s.size : Int) := by omega
      go_upto_region 7 with (fail)
      go_quiet (fail)
      go_wp2_with fail
      go_ret2
      exact ⟨rfl, _, rfl⟩

set_option maxHeartbeats 2000000 in
set_option maxRecDepth 100000 in
theorem take24_any (s : ByteArray) (k : Nat) (w : World) (hk : k ≤ 8) (hs : k ≤ s.size) (hsz : s.size ≤ 1000000) :
    Calls Try.prog 24 #[.string s, .int .i64 (k : Int)] w fun e w' => e = .returned (.tuple #[.int .i64 (toI (vls ((bl s).take k))), .string (s.extract k s.size)]) ∧ ∃ nq, w' = w.drewN nq := by
  have hbl := bl_length s
  go_enter Try.func24, Try.ntmps24
  go_wp2_with fail
  go_loop [6, 9] (fun n i => ∃ q : Nat, q ≤ k ∧ i = .int .i64 (q : Int) ∧ n = .int .i64 (toI (vls ((bl s).take q)))) (fun _ i => k - (intOf i).toNat)
  case atStart => exact ⟨0, by omega, rfl, rfl⟩
  case round =>
    obtain ⟨q, hq, rfl, rfl⟩ := hrel
    by_cases hqk : q < k
    · have kz : (q : Int) < (k : Int) := by omega
      have hqs : q < s.size := by omega
      have hqz : (q : Int) < (s.size : Int) := by omega
      have hsu := vls_take_succ (bl s) q (by omega)
      have hb : (bl s)[q]'(by omega) = s[q] := rfl
      rw [hb] at hsu
      have hlt := vls_lt ((bl s).take q)
      rw [List.length_take, Nat.min_eq_left (by omega)] at hlt
      have h7 : (256 : Nat) ^ q ≤ 256 ^ 7 := Nat.pow_le_pow_right (by omega) (by omega)
      have h77 : (256 : Nat) ^ 7 = 72057594037927936 := by decide
      have hb2 := s[q].toNat_lt
      have hor := or_byte (vls ((bl s).take q)) s[q].toNat (by omega) (by omega)
      rw [← wrap_shl] at hor
      rw [← hsu, IntWalk.i64_left] at hor
      generalize toI (vls ((bl s).take q)) = m at *
      replace hor := Lib.hid hor
      clear hsu hlt h7 h77 hb
      go_wp2_with fail
      go_round
      case rel => exact ⟨q + 1, by omega, by go_num, congrArg (Value.int .i64) hor.out⟩
      case measure => simp [intOf]; omega
    · obtain rfl : q = k := by omega
      have kz : ¬ (q : Int) < (q : Int) := by omega
      have hkz : (q : Int) ≤ (s.size : Int) := by omega
      go_upto_region 7 with (fail)
      go_quiet (fail)
      go_wp2_with fail
      go_ret2
      exact ⟨rfl, _, rfl⟩

set_option maxHeartbeats 2000000 in
set_option maxRecDepth 100000 in
theorem take33_any (s : ByteArray) (k : Nat) (w : World) (hk : k ≤ 8) (hs : k ≤ s.size) (hsz : s.size ≤ 1000000) :
    Calls Try.prog 33 #[.string s, .int .i64 (k : Int)] w fun e w' => e = .returned (.tuple #[.int .i64 (toI (vls ((bl s).take k))), .string (s.extract k s.size)]) ∧ ∃ nq, w' = w.drewN nq := by
  have hbl := bl_length s
  go_enter Try.func33, Try.ntmps33
  go_wp2_with fail
  go_loop [6, 9] (fun n i => ∃ q : Nat, q ≤ k ∧ i = .int .i64 (q : Int) ∧ n = .int .i64 (toI (vls ((bl s).take q)))) (fun _ i => k - (intOf i).toNat)
  case atStart => exact ⟨0, by omega, rfl, rfl⟩
  case round =>
    obtain ⟨q, hq, rfl, rfl⟩ := hrel
    by_cases hqk : q < k
    · have kz : (q : Int) < (k : Int) := by omega
      have hqs : q < s.size := by omega
      have hqz : (q : Int) < (s.size : Int) := by omega
      have hsu := vls_take_succ (bl s) q (by omega)
      have hb : (bl s)[q]'(by omega) = s[q] := rfl
      rw [hb] at hsu
      have hlt := vls_lt ((bl s).take q)
      rw [List.length_take, Nat.min_eq_left (by omega)] at hlt
      have h7 : (256 : Nat) ^ q ≤ 256 ^ 7 := Nat.pow_le_pow_right (by omega) (by omega)
      have h77 : (256 : Nat) ^ 7 = 72057594037927936 := by decide
      have hb2 := s[q].toNat_lt
      have hor := or_byte (vls ((bl s).take q)) s[q].toNat (by omega) (by omega)
      rw [← wrap_shl] at hor
      rw [← hsu, IntWalk.i64_left] at hor
      generalize toI (vls ((bl s).take q)) = m at *
      replace hor := Lib.hid hor
      clear hsu hlt h7 h77 hb
      go_wp2_with fail
      go_round
      case rel => exact ⟨q + 1, by omega, by go_num, congrArg (Value.int .i64) hor.out⟩
      case measure => simp [intOf]; omega
    · obtain rfl : q = k := by omega
      have kz : ¬ (q : Int) < (q : Int) := by omega
      have hkz : (q : Int) ≤ (s.size : Int) := by omega
      go_upto_region 7 with (fail)
      go_quiet (fail)
      go_wp2_with fail
      go_ret2
      exact ⟨rfl, _, rfl⟩
theorem isId_any (x : Int) (w : World) : Calls Try.prog 27 #[.int .i64 x] w fun e w' => e = .returned (.bool (idOk x)) ∧ w = w' := by
  by_cases h1 : 0 ≤ x
  · by_cases h2 : x ≤ 2147483647
    · have e : idOk x = true := by unfold idOk; simp; omega
      rw [e]
      go_enter Try.func27, Try.ntmps27
      go_wp2_with fail
      go_ret
      exact ⟨rfl, rfl⟩
    · have e : idOk x = false := by unfold idOk; simp; omega
      rw [e]
      go_enter Try.func27, Try.ntmps27
      go_wp2_with fail
      go_ret
      exact ⟨rfl, rfl⟩
  · have e : idOk x = false := by unfold idOk; simp; omega
    rw [e]
    go_enter Try.func27, Try.ntmps27
    go_wp2_with fail
    go_ret
    exact ⟨rfl, rfl⟩
end Go.Proofs.Ytgcliallkfnhaaa
