/- A map of the call's own whose elements are slices of texts, beside a journal and a row of texts. -/
import Derived.Test.YtidofjjghbhaaaaPB
import Derived.Test.YtidofjjghbhaaaaJournalOnce
import Derived.Maps.OwnSet
import Derived.Maps.OwnOps
namespace Go.Proofs.Ytidofjjghbhaaaa
open Go.RowKit Go.Maps
set_option linter.unusedVariables false

/-- an element is read as the value that it is -/
def vR : Value → Option (DataW Value × List MemPlace) := fun v => some (.held v, [])
theorem keyInt : Keyed Try.prog 3 := int_keyed Try.underlying3
theorem key_nat (k : Nat) (hk : k ≤ 9223372036854775807) : keyOf Try.prog 3 (.int .i64 (k : Int)) = some (.int .i64 (k : Int)) := keyOf_int_mk Try.underlying3 (WalkArith.wf_i64 (by omega))
def nilS : Value := .slice none 0 0
theorem zeroS (w : World) : (zeroValue 52).run Try.prog w = .ok nilS w := by kernel_rfl
/-- the value at a number -/
def HasAt (D : DataW Value) (V : Nat → Value) : Prop := Maps.IsMap D ∧ ∀ k : Nat, D.atKey (.int .i64 (k : Int)) (.held nilS) = .held (V k)
theorem HasAt.put {D : DataW Value} {V : Nat → Value} (h : HasAt D V) (k : Nat) (hk : k ≤ 9223372036854775807) (v : Value) : HasAt (D.put (.int .i64 (k : Int)) (.held v)) (upd V k v) := by
  obtain ⟨h1, h2⟩ := h
  refine ⟨h1.put _ _, fun i => ?_⟩
  by_cases e : i = k
  · subst e
    rw [upd_same, Maps.atKey_put_same h1 (keyInt.key (key_nat i hk))]
  · rw [upd_other _ _ e, Maps.atKey_put_other (fun e2 => e (by injection e2 with _ e3; omega)), h2]

/-- the map, beside a journal's blocks F and a row va of texts -/
structure TxM (B : Nat) (F : Nat → Prop) (va : Value) (w : World) (mb n : Nat) (V : Nat → Value) (G : Nat → List (List UInt8)) : Prop where
  own : ∃ D, w.ownsMap Try.prog 3 vR mb n D ∧ HasAt D V
  row : ∀ k, Rw B F w (V k) (G k)
  apart : ∀ k i, k ≠ i → ∀ g, (V k).ownBlock = some g → (V i).ownBlock ≠ some g
  all : ∀ k g, (V k).ownBlock = some g → va.ownBlock ≠ some g
  mF : ¬ F mb
  mB : B ≤ mb
  mV : ∀ k, (V k).ownBlock ≠ some mb
  mva : va.ownBlock ≠ some mb
theorem own_block {w w' : World} {mb n : Nat} {D : DataW Value} (h : w.ownsMap Try.prog 3 vR mb n D) (hb : w'.heap[mb]? = w.heap[mb]?) : w'.ownsMap Try.prog 3 vR mb n D := by
  obtain ⟨es, clock, h1, h2⟩ := h
  exact ⟨es, clock, hb.trans h1, h2⟩
section
variable {B mb n : Nat} {F F' : Nat → Prop} {va va' : Value} {w w' : World} {V : Nat → Value} {G : Nat → List (List UInt8)}
theorem TxM.lt (h : TxM B F va w mb n V G) : mb < w.heap.size := by obtain ⟨D, h1, _⟩ := h.own; exact h1.lt
theorem TxM.step (h : TxM B F va w mb n V G) (hs : Step F F' w w') : TxM B F' va w' mb n V G := by
  obtain ⟨D, h1, h2⟩ := h.own
  exact ⟨⟨D, own_block h1 (hs.kp.block mb h.lt h.mF), h2⟩, fun k => (h.row k).step hs, h.apart, h.all, hs.not h.lt h.mF, h.mB, h.mV, h.mva⟩
theorem TxM.later (h : TxM B F va w mb n V G) (hb : Below w.heap.size w w') : TxM B F va w' mb n V G := h.step (Step.of_below hb)
/-- the row goes on -/
theorem TxM.rowed (h : TxM B F va w mb n V G) (hK : Kp (fun i => va.ownBlock = some i) w w') (hv : ∀ g, va'.ownBlock = some g → va.ownBlock = some g ∨ w.heap.size ≤ g) : TxM B F va' w' mb n V G := by
  obtain ⟨D, h1, h2⟩ := h.own
  have hl := h.lt
  refine ⟨⟨D, own_block h1 (hK.block mb hl h.mva), h2⟩, fun k => ⟨(h.row k).own.block fun g hg => hK.block g ((h.row k).own.lt g hg).2 fun e => h.all k g hg e, (h.row k).out⟩, h.apart, fun k g hg e => ?_, h.mF, h.mB, h.mV, fun e => ?_⟩
  · rcases hv g e with h3 | h3
    · exact h.all k g hg h3
    · have := ((h.row k).own.lt g hg).2; omega
  · rcases hv mb e with h3 | h3
    · exact h.mva h3
    · omega
/-- behind a look-up at k, an append to what it told, and a store at k -/
theorem TxM.put {w1 w2 : World} {v' : Value} {l' : List (List UInt8)} {k : Nat} (h : TxM B F va w mb n V G) (hF : ∀ i, F i → i < w.heap.size) (hva : ∀ g, va.ownBlock = some g → g < w.heap.size) (hk : k ≤ 9223372036854775807)
    (hK : Kp (fun i => (V k).ownBlock = some i) w w1) (hO : Own B w1 v' l') (hv : ∀ g, v'.ownBlock = some g → (V k).ownBlock = some g ∨ w.heap.size ≤ g)
    (hm : ∀ D, w1.ownsMap Try.prog 3 vR mb n D → w2.ownsMap Try.prog 3 vR mb (n + 1) (D.put (.int .i64 (k : Int)) (.held v'))) (hK2 : Kp (fun i => mb = i) w1 w2) :
    TxM B F va w2 mb (n + 1) (upd V k v') (upd G k l') := by
  obtain ⟨D, h1, h2⟩ := h.own
  have hl := h.lt
  have hnm : v'.ownBlock ≠ some mb := fun e => by
    rcases hv mb e with h3 | h3
    · exact h.mV k h3
    · omega
  have hold : ∀ i, i ≠ k → ∀ g, (V i).ownBlock = some g → v'.ownBlock ≠ some g := fun i hi g hg e => by
    rcases hv g e with h3 | h3
    · exact h.apart i k hi g hg h3
    · have := ((h.row i).own.lt g hg).2; omega
  refine ⟨⟨_, hm D (own_block h1 (hK.block mb hl (h.mV k))), h2.put k hk v'⟩, fun i => ?_, fun i j hij g hg => ?_, fun i g hg => ?_, h.mF, h.mB, fun i => ?_, h.mva⟩
  · by_cases e : i = k
    · subst e
      rw [upd_same, upd_same]
      refine ⟨hO.block fun g hg => hK2.block g (hO.lt g hg).2 fun e => hnm (e ▸ hg), fun g hg hf => ?_⟩
      rcases hv g hg with h3 | h3
      · exact (h.row i).out g h3 hf
      · have := hF g hf; omega
    · rw [upd_other _ _ e, upd_other _ _ e]
      refine ⟨((h.row i).own.block fun g hg => hK.block g ((h.row i).own.lt g hg).2 fun e2 => h.apart i k e g hg e2).block fun g hg => hK2.block g (Nat.lt_of_lt_of_le ((h.row i).own.lt g hg).2 hK.size) fun e2 => h.mV i (e2 ▸ hg), (h.row i).out⟩
  · by_cases e : i = k
    · subst e
      rw [upd_same] at hg
      rw [upd_other _ _ (Ne.symm hij)]
      exact fun e2 => hold j (Ne.symm hij) g e2 hg
    · rw [upd_other _ _ e] at hg
      by_cases e' : j = k
      · subst e'
        rw [upd_same]
        exact hold i e g hg
      · rw [upd_other _ _ e']
        exact h.apart i j hij g hg
  · by_cases e : i = k
    · subst e
      rw [upd_same] at hg
      intro e2
      rcases hv g hg with h3 | h3
      · exact h.all i g h3 e2
      · have := hva g e2; omega
    · rw [upd_other _ _ e] at hg
      exact h.all i g hg
  · by_cases e : i = k
    · subst e; rw [upd_same]; exact hnm
    · rw [upd_other _ _ e]; exact h.mV i
end

/-- 'm[k]' at the operation -/
theorem wpList_lookup_held (w : World) {ops : Array Oper} {rest : List Oper} {o : Oper} {a : Act} {Q : Exit → Act → World → Prop} (hg : o.guard = none) (m x : Operand) (hop : o.op = Op.lookup 53 m x false)
    (mb n : Nat) (D : DataW Value) (V : Nat → Value) (hm : a.eval m = .map (some mb)) (hown : w.ownsMap Try.prog 3 vR mb n D) (hat : HasAt D V) (k : Nat) (hk : k ≤ 9223372036854775807) (hx : a.eval x = .int .i64 (k : Int))
    (hK : wpList Try.prog ops Q rest (a.put o.dst (V k)) w) : wpList Try.prog ops Q (o :: rest) a w := by
  refine wpList_plain hg fun K' hK' => ?_
  obtain ⟨v, ps, hrun, hv⟩ := hown.lookup keyInt Try.underlying53 (zeroS w) (zd := .held nilS) (zp := []) rfl (key_nat k hk)
  rw [hat.2 k] at hv
  unfold vR at hv
  simp only [Option.some.injEq, Prod.mk.injEq] at hv
  obtain ⟨e, _⟩ := hv
  injection e with e
  subst e
  unfold Oper.wp
  simp [execOp, hop, hm, hx, hrun, Result.andThen]
  exact hK' _ _ hK
/-- 'm[k] = v' at the operation -/
theorem wpList_store_held (w : World) {ops : Array Oper} {rest : List Oper} {o : Oper} {a : Act} {Q : Exit → Act → World → Prop} (hg : o.guard = none) (m x v : Operand) (hop : o.op = Op.mapUpdate 53 m x v ∨ o.op = Op.insert 53 m x v)
    (mb : Nat) (hm : a.eval m = .map (some mb)) (n : Nat) (hn : n < 1000000) (D0 : DataW Value) (hown : w.ownsMap Try.prog 3 vR mb n D0) (k : Nat) (hk : k ≤ 9223372036854775807) (hx : a.eval x = .int .i64 (k : Int)) (v' : Value) (hv : a.eval v = v')
    (hK : ∀ w2, (∀ D, w.ownsMap Try.prog 3 vR mb n D → w2.ownsMap Try.prog 3 vR mb (n + 1) (D.put (.int .i64 (k : Int)) (.held v'))) → w.grownBy w2 (some mb) → wpList Try.prog ops Q rest (a.put o.dst undef) w2) : wpList Try.prog ops Q (o :: rest) a w := by
  refine wpList_plain hg fun K' hK' => ?_
  obtain ⟨w2, hrun, r1, r2⟩ := hown.update keyInt Try.underlying53 (by unfold maxLen; omega) (key_nat k hk) (val := v') (d := .held v') (ps := []) rfl
  have hall : ∀ D, w.ownsMap Try.prog 3 vR mb n D → w2.ownsMap Try.prog 3 vR mb (n + 1) (D.put (.int .i64 (k : Int)) (.held v')) := fun D hD => by
    obtain ⟨w3, hrun3, r3, _⟩ := hD.update keyInt Try.underlying53 (by unfold maxLen; omega) (key_nat k hk) (val := v') (d := .held v') (ps := []) rfl
    rw [hrun] at hrun3
    injection hrun3 with _ e
    subst e
    exact r3
  unfold Oper.wp
  rcases hop with hop | hop <;>
  · simp [execOp, hop, hm, hx, hv, hrun, Result.andThen]
    exact hK' _ _ (hK w2 hall r2)
end Go.Proofs.Ytidofjjghbhaaaa
