/- The contracts of New, lay, take. -/
import Derived.Test.YtflbggehgjllcaaDoorDH
import Derived.Test.YtflbggehgjllcaaDoorDT
import Derived.Lib.UnsafeStr
import Derived.Carry
namespace Go.Proofs.YtflbggehgjllcaaDoor
open Go.RowKit Go.Maps
set_option linter.unusedVariables false

/-- a text as bytes -/
def bl (s : ByteArray) : List UInt8 := s.data.toList
theorem bl_length (s : ByteArray) : (bl s).length = s.size := by show s.data.toList.length = s.data.size; simp
def Row (w : World) (v : Value) (l : List UInt8) : Prop := w.ownsRow 0 5 1 v l.length (Lib.byteCells l)
theorem Row.lt {w : World} {v : Value} {l : List UInt8} (h : Row w v l) : ∀ g, v.ownBlock = some g → g < w.heap.size := fun g hg => (World.ownsRow.lt h g hg).2
theorem Row.kept {w w' : World} {v : Value} {l : List UInt8} (h : Row w v l) (hb : ∀ g, v.ownBlock = some g → w'.heap[g]? = w.heap[g]?) : Row w' v l := orow_kept h hb
theorem or_byte (m b : Nat) (hm : m < 72057594037927936) (hb : b < 256) : bits .or .i64 (IntKind.i64.wrap ((m * 256 : Nat) : Int)) (b : Int) = toI (m * 256 + b) := by
  have e1 : BitVec.ofInt IntKind.i64.bits (IntKind.i64.wrap ((m * 256 : Nat) : Int)) = BitVec.ofNat IntKind.i64.bits (m * 256) := by
    apply BitVec.eq_of_toNat_eq
    rw [BitVec.toNat_ofInt, BitVec.toNat_ofNat]
    unfold IntKind.wrap
    simp [IntKind.bits, IntKind.signed]
    split <;> omega
  have e2 : BitVec.ofInt IntKind.i64.bits (b : Int) = BitVec.ofNat IntKind.i64.bits b := by
    apply BitVec.eq_of_toNat_eq
    rw [BitVec.toNat_ofInt, BitVec.toNat_ofNat]
    simp [IntKind.bits]
    omega
  have e3 : m * 256 ||| b = m * 256 + b := by
    have := Nat.shiftLeft_add_eq_or_of_lt (b := b) (i := 8) (by omega) m
    rw [Nat.shiftLeft_eq] at this
    exact this.symm
  unfold bits
  rw [e1, e2]
  simp only [BitVec.toNat_or, BitVec.toNat_ofNat]
  have h1 : (2 : Nat) ^ IntKind.i64.bits = 18446744073709551616 := by decide
  rw [h1, Nat.mod_eq_of_lt (by omega), Nat.mod_eq_of_lt (by omega), e3]
  unfold toI IntKind.wrap
  simp [IntKind.bits, IntKind.signed]
  split <;> omega
theorem wrap_shl (m : Nat) : IntKind.i64.wrap (toI m * 256) = IntKind.i64.wrap ((m * 256 : Nat) : Int) := by
  unfold toI IntKind.wrap
  simp [IntKind.bits, IntKind.signed]
  split <;> (repeat' split) <;> omega
theorem shr_byte (n : Int) (q : Nat) (hq : q ≤ 7) : (n / ((2 : Int) ^ (8 * q))) % 256 = (((toU n / 256 ^ q) % 256 : Nat) : Int) := by
  have h : q = 0 ∨ q = 1 ∨ q = 2 ∨ q = 3 ∨ q = 4 ∨ q = 5 ∨ q = 6 ∨ q = 7 := by omega
  unfold toU
  rcases h with rfl | rfl | rfl | rfl | rfl | rfl | rfl | rfl <;> simp only [Nat.reduceMul, Nat.reducePow, Int.reducePow] <;> omega

theorem byte_nat (x : Nat) : ((UInt8.ofNat (x % 256)).toNat : Int) = ((x % 256 : Nat) : Int) := by
  rw [UInt8.toNat_ofNat']
  omega
/-- bytes are laid behind a row's -/
structure Laid (w wr : World) (v b : Value) (l : List UInt8) : Prop where
  row : Row wr b l
  kp : Kp (fun j => v.ownBlock = some j) w wr
  own : ∀ g, b.ownBlock = some g → v.ownBlock = some g ∨ w.heap.size ≤ g
theorem bes_take_succ (k n q : Nat) (hq : q < k) : (bes k n).take (k - q) = (bes k n).take (k - (q + 1)) ++ [UInt8.ofNat (n / 256 ^ q % 256)] := by
  induction k with
  | zero => omega
  | succ k ih =>
    by_cases e : q = k
    · subst e
      rw [show q + 1 - q = 1 by omega, show q + 1 - (q + 1) = 0 by omega]
      rfl
    · rw [show k + 1 - q = (k - q) + 1 by omega, show k + 1 - (q + 1) = (k - (q + 1)) + 1 by omega, bes, List.take_succ_cons, List.take_succ_cons, List.cons_append, ← ih (by omega)]

theorem vls_take_succ (l : List UInt8) (i : Nat) (h : i < l.length) : vls (l.take (i + 1)) = vls (l.take i) * 256 + (l[i]).toNat := by
  rw [List.take_succ_eq_append_getElem h, vls_snoc]

theorem wpList_appB {ops : Array Oper} {rest : List Oper} {o : Oper} {a : Act} {w : World} {Q : Exit → Act → World → Prop} (hgd : o.guard = none) (sl x : Operand) (hty : o.type = 62)
    (ho : o.op = .call { callee := .builtin .append, args := #[sl, x], argTypes := #[62, 62] })
    (v : Value) (l : List UInt8) (hs : a.eval sl = v) (hrow : Row w v l) (b : Addr) (y : Int) (hx : a.eval x = .slice (some b) 1 1) (hy : w.cell? (b.add 0) = some (.int .u8 y)) (z : UInt8) (hz : y = (z.toNat : Int)) (hn : l.length + 1 ≤ 16777216)
    (h : ∀ v' w', Row w' v' (l ++ [z]) → w.grownBy w' v.ownBlock → (∀ g, v'.ownBlock = some g → v.ownBlock = some g ∨ w.heap.size ≤ g) → wpList Tryd.prog ops Q rest (a.put o.dst v') w') : wpList Tryd.prog ops Q (o :: rest) a w := by
  subst hz
  refine wpList_app1 62 5 1 1 _ Tryd.underlying62 info5 (by rfl) (by omega) (by omega) hgd sl x hty ho v l.length (Lib.byteCells l) hs hrow b [.int .u8 (z.toNat : Int)] hx rfl (fun j u hu => ?_) (fun u hu => by obtain rfl := List.mem_singleton.1 hu; rfl) hn (fun v' w' h1 h2 h3 => h v' w' ?_ h2 h3)
  · match j with
    | 0 => injection hu with hu; rw [← hu]; exact hy
    | j + 1 => simp at hu
  · unfold Row
    rw [List.length_append]
    have e : Lib.byteCells (l ++ [z]) = Lib.byteCells l ++ [Value.int .u8 (z.toNat : Int)] := by simp [Lib.byteCells]
    rw [e]; exact h1
set_option maxHeartbeats 2000000 in
set_option maxRecDepth 100000 in
theorem lay_any (v : Value) (l : List UInt8) (n : Int) (k : Nat) (w : World) (hr : Row w v l) (hk : k ≤ 8) (hl : l.length ≤ 16000000) :
    Calls Tryd.prog 29 #[v, .int .i64 n, .int .i64 (k : Int)] w fun e w' => ∃ b, e = .returned b ∧ Laid w w' v b (l ++ bes k (toU n)) := by
  have h0 : Laid w w v v (l ++ (bes k (toU n)).take (k - k)) := ⟨by rw [Nat.sub_self, List.take_zero, List.append_nil]; exact hr, Kp.refl _ _, fun g h => .inl h⟩
  have hkw : IntKind.i64.wrap ((k : Int) - 1) = (k : Int) - 1 := by rw [IntKind.wrap_i64] <;> omega
  replace h0 := Lib.hid h0
  replace hr := Lib.hid hr
  go_enter Tryd.func29, Tryd.ntmps29
  go_wp2_with fail
  go_loopw [0, 7] (fun b i wr => ∃ q : Nat, q ≤ k ∧ i = .int .i64 ((q : Int) - 1) ∧ Hid (Laid w wr v b (l ++ (bes k (toU n)).take (k - q)))) (fun _ i _ => (intOf i + 1).toNat)
  case atStart => exact ⟨k, by omega, rfl, h0⟩
  case round =>
    obtain ⟨q, hq, rfl, hS⟩ := hrel
    by_cases hq0 : 0 < q
    · obtain ⟨p, rfl⟩ : ∃ p, q = p + 1 := ⟨q - 1, by omega⟩
      have hkz : (((p + 1 : Nat) : Int) - 1) = (p : Int) := by omega
      rw [hkz]
      have hz0 : (0 : Int) ≤ (p : Int) := by omega
      have hw8 : IntKind.i64.wrap (8 * (p : Int)) = 8 * (p : Int) := by rw [IntKind.wrap_i64] <;> omega
      have hst := hS.out
      obtain ⟨pp, cap, hsh, _, _, _⟩ := orow_shape hst.row
      have hll : (l ++ (bes k (toU n)).take (k - (p + 1))).length ≤ 16000008 := by rw [List.length_append, List.length_take]; omega
      have hbs := bes_take_succ k (toU n) p (by omega)
      have hrow2 : ∀ o, Row (wr.alloc o) u0 (l ++ (bes k (toU n)).take (k - (p + 1))) := fun o => hst.row.kept fun g hg => Below.heap_alloc _ _ _ (hst.row.lt g hg)
      have hkp2 : ∀ o, Kp (fun j => v.ownBlock = some j) w (wr.alloc o) := fun o => hst.kp.alloc o
      have hby := shr_byte n p (by omega)
      have hlt : toU n / 256 ^ p % 256 < 256 := Nat.mod_lt _ (by decide)
      replace hrow2 := Lib.hid hrow2
      replace hkp2 := Lib.hid hkp2
      replace hst := Lib.hid hst
      replace hbs := Lib.hid hbs
      replace hby := Lib.hid hby
      replace hsh := Lib.hid hsh
      go_wp2_with (at_builtin; refine wpList_appB rfl _ _ rfl rfl _ (l ++ (bes k (toU n)).take (k - (p + 1))) rfl (hrow2.out _) ⟨wr.heap.size, 0, none⟩ _ rfl (obj_cell (heap_alloc_new wr _) rfl) (UInt8.ofNat (toU n / 256 ^ p % 256)) ?hzz (by omega) ?_)
      case hzz => rw [hby.out, byte_nat]
      intro v' w' hr' hg hv'
      go_wp2_with fail
      go_roundw
      case rel =>
        refine ⟨p, by omega, by go_num, Lib.hid ⟨?_, (hkp2.out _).grown hg ?_, ?_⟩⟩
        · rw [hbs.out]; exact hr'
        · intro g hg'
          exact hst.out.own g hg'
        · intro g hg'
          have hz := hst.out.kp.size
          rcases hv' g hg' with h1 | h1
          · exact hst.out.own g h1
          · exact .inr (by first | omega | (simp at h1; omega))
      case measure => simp [intOf]
    · obtain rfl : q = 0 := by omega
      have hz0 : ¬ (0 : Int) ≤ ((0 : Nat) : Int) - 1 := by omega
      rw [Nat.sub_zero, List.take_of_length_le (by rw [bes_length]; omega)] at hS
      go_wp2_with fail
      go_ret
      exact ⟨_, rfl, hS.out⟩
set_option maxHeartbeats 2000000 in
set_option maxRecDepth 100000 in
theorem take_any (s : ByteArray) (k : Nat) (w : World) (hk : k ≤ 8) (hs : k ≤ s.size) (hsz : s.size ≤ 1000000) :
    Calls Tryd.prog 37 #[.string s, .int .i64 (k : Int)] w fun e w' => e = .returned (.tuple #[.int .i64 (toI (vls ((bl s).take k))), .string (s.extract k s.size)]) ∧ ∃ nq, w' = w.drewN nq := by
  have hbl := bl_length s
  go_enter Tryd.func37, Tryd.ntmps37
  go_wp2_with fail
  go_loop [6, 9] (fun n i => ∃ q : Nat, q ≤ k ∧ i = .int .i64 (q : Int) ∧ n = .int .i64 (toI (vls ((bl s).take q)))) (fun _ i => k - (intOf i).toNat)
  case atStart => exact ⟨0, by omega, rfl, rfl⟩
  case round =>
    obtain ⟨q, hq, rfl, rfl⟩ := hrel
    by_cases hqk : q < k
    · have kz : (q : Int) < (k : Int) := by omega
      have hqs : q < s.size := by omega
      have hqz : (q : Int) < (s.size : Int) := by omega
      have hsu := vls_take_succ (bl s) q (by omega)
      have hb : (bl s)[q]'(by omega) = s[q] := rfl
      rw [hb] at hsu
      have hlt := vls_lt ((bl s).take q)
      rw [List.length_take, Nat.min_eq_left (by omega)] at hlt
      have h7 : (256 : Nat) ^ q ≤ 256 ^ 7 := Nat.pow_le_pow_right (by omega) (by omega)
      have h77 : (256 : Nat) ^ 7 = 72057594037927936 := by decide
      have hb2 := s[q].toNat_lt
      have hor := or_byte (vls ((bl s).take q)) s[q].toNat (by omega) (by omega)
      rw [← wrap_shl] at hor
      rw [← hsu, IntWalk.i64_left] at hor
      generalize toI (vls ((bl s).take q)) = m at *
      replace hor := Lib.hid hor
      clear hsu hlt h7 h77 hb
      go_wp2_with fail
      go_round
      case rel => exact ⟨q + 1, by omega, by go_num, congrArg (Value.int .i64) hor.out⟩
      case measure => simp [intOf]; omega
    · obtain rfl : q = k := by omega
      have kz : ¬ (q : Int) < (q : Int) := by omega
      have hkz : (q : Int) ≤ (s.size : Int) := by omega
      go_upto_region 7 with (fail)
      go_quiet (fail)
      go_wp2_with fail
      go_ret2
      exact ⟨rfl, _, rfl⟩


theorem IxD.nil : IxD (.map []) [] := ⟨⟨[], rfl⟩, fun _ _ => rfl, fun _ _ _ h => by cases h⟩
def newR (mem cur : Int) : Bool := decide (1 ≤ mem ∧ mem ≤ 16 ∧ 1 ≤ cur ∧ cur ≤ 8)
set_option maxHeartbeats 2000000 in
set_option maxRecDepth 100000 in
theorem new_no (mem cur : Int) (w : World) (h : newR mem cur = false) : Calls Tryd.prog 8 #[.int .i64 mem, .int .i64 cur] w fun e w' => e = .returned (.tuple #[.pointer none, .int .i64 1]) ∧ w = w' := by
  unfold newR at h
  have hh : ¬ (1 ≤ mem ∧ mem ≤ 16 ∧ 1 ≤ cur ∧ cur ≤ 8) := of_decide_eq_false h
  clear h
  by_cases a1 : mem < 1
  · go_enter Tryd.func8, Tryd.ntmps8
    go_wp2_with fail
    go_ret2
    exact ⟨rfl, rfl⟩
  · by_cases a2 : 16 < mem
    · go_enter Tryd.func8, Tryd.ntmps8
      go_wp2_with fail
      go_ret2
      exact ⟨rfl, rfl⟩
    · by_cases a3 : cur < 1
      · go_enter Tryd.func8, Tryd.ntmps8
        go_wp2_with fail
        go_ret2
        exact ⟨rfl, rfl⟩
      · have a4 : 8 < cur := by omega
        clear hh
        go_enter Tryd.func8, Tryd.ntmps8
        go_wp2_with fail
        go_ret2
        exact ⟨rfl, rfl⟩
set_option maxHeartbeats 2000000 in
set_option maxRecDepth 100000 in
theorem new_yes (P : Nat → Prop) (mem cur : Int) (w : World) (h : newR mem cur = true) (hf : ∀ i, w.heap.size ≤ i → P i) : Calls Tryd.prog 8 #[.int .i64 mem, .int .i64 cur] w fun e w' => ∃ gb, e = .returned (.tuple #[.pointer (some ⟨gb, 0, none⟩), .int .i64 0]) ∧ PB P w' gb ⟨mem, cur, [], 0⟩ ∧ Below w.heap.size w w' ∧ w.heap.size ≤ gb := by
  unfold newR at h
  obtain ⟨a1, a2, a3, a4⟩ := of_decide_eq_true h
  clear h
  have b1 : ¬ mem < 1 := by omega
  have b2 : ¬ 16 < mem := by omega
  have b3 : ¬ cur < 1 := by omega
  have b4 : ¬ 8 < cur := by omega
  have hmm := @run_makeMap Tryd.prog
  go_enter Tryd.func8, Tryd.ntmps8
  go_wp2_with fail
  go_ret2
  refine ⟨w.heap.size + 1, rfl, ⟨.slice none 0 0, w.heap.size, .map [], new_two w _ _, World.ownsRow_nil _ 0 65 10, own_block (World.ownsMap_made w Tryd.prog 3 _) (Below.heap_alloc _ _ _ (by simp)), IxD.nil, hf _ (by omega), hf _ (by omega), fun g hg => by simp [Value.ownBlock] at hg⟩, ((Below.refl _ _).alloc (Nat.le_refl _) _).alloc (by simp) _, by omega⟩
end Go.Proofs.YtflbggehgjllcaaDoor
