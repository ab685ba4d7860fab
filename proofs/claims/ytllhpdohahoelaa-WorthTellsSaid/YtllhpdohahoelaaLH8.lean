/- Bytes laid behind a row; the contracts of textSize, appendRow.
  The contracts of takeAmount, takeRow. -/
import Derived.Test.YtllhpdohahoelaaLH2
import Derived.Test.YtllhpdohahoelaaLG8
import Derived.Test.YtllhpdohahoelaaT1
import Derived.Test.YtllhpdohahoelaaLG5
namespace Go.Proofs.Ytllhpdohahoelaa
open Go.RowKit
set_option linter.unusedVariables false
theorem byte_nat (x : Nat) : ((UInt8.ofNat (x % 256)).toNat : Int) = ((x % 256 : Nat) : Int) := by
  rw [UInt8.toNat_ofNat']
  omega
/-- bytes are laid behind a row's -/
structure Laid (w wr : World) (v b : Value) (l : List UInt8) : Prop where
  row : Row wr b l
  kp : Kp (fun j => v.ownBlock = some j) w wr
  own : ∀ g, b.ownBlock = some g → v.ownBlock = some g ∨ w.heap.size ≤ g
theorem Laid.refl {w : World} {v : Value} {l : List UInt8} (h : Row w v l) : Laid w w v v l := ⟨h, Kp.refl _ _, fun g h => .inl h⟩
theorem Laid.trans {w w1 w2 : World} {v b d : Value} {l m : List UInt8} (h : Laid w w1 v b l) (k : Laid w1 w2 b d m) : Laid w w2 v d m :=
  ⟨k.row, h.kp.then k.kp fun j hj hg => by rcases h.own j hg with h1 | h1; exact h1; omega, fun g hg => by
    rcases k.own g hg with h1 | h1
    · exact h.own g h1
    · exact .inr (Nat.le_trans h.kp.size h1)⟩
theorem Laid.alloc {w wr : World} {v b : Value} {l : List UInt8} (h : Laid w wr v b l) (o : Obj) : Laid w (wr.alloc o) v b l :=
  ⟨h.row.kept fun g hg => Below.heap_alloc _ _ _ (h.row.lt g hg), h.kp.alloc o, h.own⟩
theorem Laid.more {w wr w' : World} {v b b' : Value} {l m : List UInt8} (h : Laid w wr v b l) (hr : Row w' b' m) (hg : wr.grownBy w' b.ownBlock) (hl : Lies wr.heap.size b b') : Laid w w' v b' m :=
  ⟨hr, h.kp.grown hg (fun k hk => h.own k hk), fun g hg' => by
    rcases hl with e | ⟨q, hq, e⟩
    · rw [e] at hg'; exact h.own g hg'
    · rw [e] at hg'
      injection hg' with hg'
      subst hg'
      exact .inr (Nat.le_trans h.kp.size hq)⟩
theorem bes_take_succ (k n q : Nat) (hq : q < k) : (bes k n).take (k - q) = (bes k n).take (k - (q + 1)) ++ [UInt8.ofNat (n / 256 ^ q % 256)] := by
  induction k with
  | zero => omega
  | succ k ih =>
    by_cases e : q = k
    · subst e
      rw [show q + 1 - q = 1 by omega, show q + 1 - (q + 1) = 0 by omega]
      rfl
    · rw [show k + 1 - q = (k - q) + 1 by omega, show k + 1 - (q + 1) = (k - (q + 1)) + 1 by omega, bes, List.take_succ_cons, List.take_succ_cons, List.cons_append, ← ih (by omega)]
theorem pow8 (q : Nat) : (2 : Nat) ^ (8 * q) = 256 ^ q := by rw [Nat.pow_mul]

/-- Text's way -/
structure TS (w wr : World) (b : Value) (l : List UInt8) : Prop where
  row : Row wr b l
  blw : Below w.heap.size w wr
  own : ∀ g, b.ownBlock = some g → w.heap.size ≤ g
theorem TS.step {w wr w' : World} {b d : Value} {l m : List UInt8} (h : TS w wr b l) (k : Laid wr w' b d m) : TS w w' d m :=
  ⟨k.row, h.blw.trans (k.kp.below h.blw.size fun j hj e => by have := h.own j e; omega), fun g hg => by
    rcases k.own g hg with e | e
    · exact h.own g e
    · exact Nat.le_trans h.blw.size e⟩
theorem TS.alloc {w wr : World} {b : Value} {l : List UInt8} (h : TS w wr b l) (o : Obj) : TS w (wr.alloc o) b l :=
  ⟨h.row.kept fun g hg => Below.heap_alloc _ _ _ (h.row.lt g hg), h.blw.alloc h.blw.size _, h.own⟩
theorem Row.room (w : World) (n : Nat) (hn : n ≤ 1000000) : Row (w.alloc (.cells (zb n) 5)) (.slice (some ⟨w.heap.size, 0, none⟩) 0 n) [] :=
  ⟨rfl, .inr ⟨w.heap.size, n, zb n, rfl, Nat.zero_le _, heap_alloc_new w _, Nat.zero_le _, by unfold maxLen; omega, by unfold zb Lib.byteCells; simp, by simp [Lib.byteCells]⟩⟩

end Go.Proofs.Ytllhpdohahoelaa
namespace Go.Proofs.Ytllhpdohahoelaa
open Go.RowKit
set_option linter.unusedVariables false

theorem orU_byte (m b : Nat) (hm : m < 72057594037927936) (hb : b < 256) : bits .or .u64 ((m : Int) * 256) (b : Int) = ((m * 256 + b : Nat) : Int) := by
  have e1 : BitVec.ofInt IntKind.u64.bits ((m : Int) * 256) = BitVec.ofNat IntKind.u64.bits (m * 256) := by
    apply BitVec.eq_of_toNat_eq
    rw [BitVec.toNat_ofInt, BitVec.toNat_ofNat]
    simp [IntKind.bits]
    omega
  have e2 : BitVec.ofInt IntKind.u64.bits (b : Int) = BitVec.ofNat IntKind.u64.bits b := by
    apply BitVec.eq_of_toNat_eq
    rw [BitVec.toNat_ofInt, BitVec.toNat_ofNat]
    simp [IntKind.bits]
    omega
  have e3 : m * 256 ||| b = m * 256 + b := by
    have := Nat.shiftLeft_add_eq_or_of_lt (b := b) (i := 8) (by omega) m
    rw [Nat.shiftLeft_eq] at this
    exact this.symm
  unfold bits
  rw [e1, e2]
  simp only [BitVec.toNat_or, BitVec.toNat_ofNat]
  have h1 : (2 : Nat) ^ IntKind.u64.bits = 18446744073709551616 := by decide
  rw [h1, Nat.mod_eq_of_lt (by omega), Nat.mod_eq_of_lt (by omega), e3]
  unfold IntKind.wrap
  simp [IntKind.bits, IntKind.signed]
  omega
theorem wrap_toI (n : Nat) (h : n < 18446744073709551616) : IntKind.i64.wrap (n : Int) = toI n := by
  rw [IntKind.wrap_i64]
  unfold toI
  split <;> omega
theorem vls_take_succ (l : List UInt8) (q : Nat) (h : q < l.length) : vls (l.take (q + 1)) = vls (l.take q) * 256 + l[q].toNat := by
  rw [List.take_succ_eq_append_getElem h, vls_snoc]
theorem bl_ext (s : ByteArray) (a b : Nat) : bl (s.extract a b) = ((bl s).drop a).take (b - a) := by
  have h : s = ⟨(bl s).toArray⟩ := (mk_bl s).symm
  rw [h, ext_mk, bl_mk, bl_mk]

theorem BX.drew {w : World} {p : Nat} {f : Nat → Int} (h : BX w p f) : BX w.drew p f := h
/-- a row that is told -/
def rowT (l : List UInt8) (at_ n : Nat) : Nat → Int := fun c => if c < n then amt l (at_ + 8 * c) else 0
theorem rowT_succ (l : List UInt8) (k n : Nat) : upd (rowT l k n) n (amt l (k + 8 * n)) = rowT l k (n + 1) := by
  funext c
  unfold upd rowT
  by_cases e : c = n
  · subst e; rw [if_pos rfl, if_pos (by omega)]
  · rw [if_neg e]
    by_cases h : c < n
    · rw [if_pos h, if_pos (by omega)]
    · rw [if_neg h, if_neg (by omega)]
theorem amt_in (l : List UInt8) (k : Nat) : In64 (amt l k) := by
  have h := vls_lt ((l.drop k).take 8)
  have h8 : (256 : Nat) ^ ((l.drop k).take 8).length ≤ 256 ^ 8 := Nat.pow_le_pow_right (by omega) (by rw [List.length_take]; omega)
  have h88 : (256 : Nat) ^ 8 = 18446744073709551616 := by decide
  exact toI_bnd _ (by omega)
theorem rowT_in (l : List UInt8) (k n : Nat) (c : Nat) : In64 (rowT l k n c) := by
  unfold rowT
  split
  · exact amt_in _ _
  · decide

end Go.Proofs.Ytllhpdohahoelaa
