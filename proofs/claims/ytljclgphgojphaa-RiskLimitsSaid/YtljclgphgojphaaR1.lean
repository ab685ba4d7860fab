/- Plain arithmetic of numbers by digits of ten thousands: no Go text.
  The contracts of the reference's numbers of any size: digit, trim, Of, Turned. -/
import Derived.Below
import Derived.Test.YtljclgphgojphaaProg
import Derived.WalkKit
import Derived.Lib.Hide
import Derived.Outline
import Derived.OwnWalk
import Derived.Laws.AppendOwn
import Derived.Deep.DeepCutAuto
import Derived.Deep.CutBlock
import Derived.Deep.RegionWith
import Derived.Deep.QuietTactic
import Derived.BigQuiet
import Derived.RegionTactic
import Derived.ChangeAlike
import Derived.WalkSpells
namespace Go.Proofs.Ytljclgphgojphaa
set_option linter.unusedVariables false

/-- the power of ten thousand -/
def pw (n : Nat) : Int := 10000 ^ n
theorem pw_zero : pw 0 = 1 := rfl
theorem pw_succ (n : Nat) : pw (n + 1) = 10000 * pw n := by unfold pw; rw [Int.pow_succ, Int.mul_comm]
theorem pw_pos (n : Nat) : 1 ≤ pw n := by
  induction n with
  | zero => simp [pw]
  | succ n ih => rw [pw_succ]; omega
theorem pw_add (m n : Nat) : pw (m + n) = pw m * pw n := by unfold pw; rw [Int.pow_add]
theorem pw_mono {m n : Nat} (h : m ≤ n) : pw m ≤ pw n := by
  obtain ⟨k, rfl⟩ := Nat.exists_eq_add_of_le h
  induction k with
  | zero => simp
  | succ k ih => rw [← Nat.add_assoc, pw_succ]; have := ih (by omega); have := pw_pos (m + k); omega

/-- the number of the first n digits -/
def dv (f : Nat → Int) : Nat → Int
  | 0 => 0
  | n + 1 => dv f n + f n * pw n
def Digs (f : Nat → Int) : Prop := ∀ i, 0 ≤ f i ∧ f i ≤ 9999

theorem dig_mul {d n : Int} (h0 : 0 ≤ d) (h1 : d ≤ 9999) (p : 1 ≤ n) : 0 ≤ d * n ∧ d * n ≤ 9999 * n :=
  ⟨Int.mul_nonneg h0 (by omega), Int.mul_le_mul_of_nonneg_right h1 (by omega)⟩
theorem dv_bd {f : Nat → Int} (hf : Digs f) : ∀ n, 0 ≤ dv f n ∧ dv f n < pw n
  | 0 => by simp [dv, pw]
  | n + 1 => by
    obtain ⟨h1, h2⟩ := dv_bd hf n
    obtain ⟨d0, d1⟩ := hf n
    obtain ⟨m0, m1⟩ := dig_mul d0 d1 (pw_pos n)
    rw [dv, pw_succ]
    omega
theorem dv_congr {f g : Nat → Int} : ∀ n, (∀ i, i < n → f i = g i) → dv f n = dv g n
  | 0, _ => rfl
  | n + 1, h => by rw [dv, dv, dv_congr n (fun i hi => h i (by omega)), h n (by omega)]
theorem dv_ext {f : Nat → Int} {m n : Nat} (h : m ≤ n) (hz : ∀ i, m ≤ i → f i = 0) : dv f n = dv f m := by
  obtain ⟨k, rfl⟩ := Nat.exists_eq_add_of_le h
  induction k with
  | zero => rfl
  | succ k ih => rw [← Nat.add_assoc, dv, ih (by omega), hz (m + k) (by omega), Int.zero_mul, Int.add_zero]
theorem dv_mono {f : Nat → Int} (hf : Digs f) {m n : Nat} (h : m ≤ n) : dv f m ≤ dv f n := by
  obtain ⟨k, rfl⟩ := Nat.exists_eq_add_of_le h
  induction k with
  | zero => exact Int.le_refl _
  | succ k ih =>
    obtain ⟨d0, d1⟩ := hf (m + k)
    have := (dig_mul d0 d1 (pw_pos (m + k))).1
    rw [← Nat.add_assoc, dv]
    have := ih (by omega)
    omega
/-- digits that agree from k on -/
theorem dv_agree {f g : Nat → Int} {k n : Nat} (h : k ≤ n) (he : ∀ i, k ≤ i → i < n → f i = g i) : dv f n - dv g n = dv f k - dv g k := by
  obtain ⟨j, rfl⟩ := Nat.exists_eq_add_of_le h
  induction j with
  | zero => rfl
  | succ j ih =>
    rw [← Nat.add_assoc, dv, dv, he (k + j) (by omega) (by omega)]
    have := ih (by omega) (fun i h1 h2 => he i h1 (by omega))
    omega
theorem dv_first {f g : Nat → Int} (hf : Digs f) (hg : Digs g) {k n : Nat} (h : k < n) (he : ∀ i, k < i → i < n → f i = g i) (hk : g k < f k) : dv g n < dv f n := by
  have h1 := dv_agree (f := f) (g := g) (k := k + 1) (n := n) h (fun i a b => he i (by omega) b)
  have h2 := dv_bd hf k
  have h3 := dv_bd hg k
  rw [dv, dv] at h1
  have h4 : (f k - g k) * pw k ≥ 1 * pw k := Int.mul_le_mul_of_nonneg_right (by omega) (by have := pw_pos k; omega)
  rw [Int.sub_mul, Int.one_mul] at h4
  omega
/-- a digit that is not 0 is seen in the number -/
theorem dv_zero {f : Nat → Int} (hf : Digs f) {m n : Nat} (hm : dv f n < pw m) : ∀ i, m ≤ i → i < n → f i = 0 := by
  intro i h1 h2
  have h3 := dv_mono hf (show i + 1 ≤ n from h2)
  have h4 := (dv_bd hf i).1
  obtain ⟨d0, d1⟩ := hf i
  have h5 := pw_mono h1
  have h6 := pw_pos i
  apply Int.le_antisymm ?_ d0
  apply Int.not_lt.1
  intro hlt
  have h7 : 1 * pw i ≤ f i * pw i := Int.mul_le_mul_of_nonneg_right (by omega) (by omega)
  rw [dv] at h3
  omega

/-- a list's digits -/
def dg (l : List Int) : Nat → Int := fun i => l.getD i 0
def val (l : List Int) : Int := dv (dg l) l.length
theorem dg_out {l : List Int} {i : Nat} (h : l.length ≤ i) : dg l i = 0 := by unfold dg; rw [List.getD_eq_getElem?_getD, List.getElem?_eq_none h]; rfl
theorem val_ext {l : List Int} {n : Nat} (h : l.length ≤ n) : dv (dg l) n = val l := dv_ext h (fun i hi => dg_out hi)
theorem val_bd {l : List Int} (hd : Digs (dg l)) : 0 ≤ val l ∧ val l < pw l.length := dv_bd hd _
theorem val_take {l : List Int} {n : Nat} (h : n ≤ l.length) (hz : ∀ i, n ≤ i → dg l i = 0) : val (l.take n) = val l := by
  unfold val
  rw [dv_ext h hz, List.length_take, Nat.min_eq_left h]
  apply dv_congr
  intro i hi
  unfold dg
  rw [List.getD_eq_getElem?_getD, List.getD_eq_getElem?_getD, List.getElem?_take, if_pos hi]
theorem dg_snoc_lt {l : List Int} {d : Int} {i : Nat} (h : i < l.length) : dg (l ++ [d]) i = dg l i := by
  unfold dg; rw [List.getD_eq_getElem?_getD, List.getD_eq_getElem?_getD, List.getElem?_append_left h]
theorem dg_snoc_eq {l : List Int} {d : Int} : dg (l ++ [d]) l.length = d := by
  unfold dg; rw [List.getD_eq_getElem?_getD, List.getElem?_append_right (Nat.le_refl _)]; simp
theorem val_snoc (l : List Int) (d : Int) : val (l ++ [d]) = val l + d * pw l.length := by
  unfold val
  rw [show (l ++ [d]).length = l.length + 1 from by simp, dv, dg_snoc_eq, dv_congr l.length (fun i hi => dg_snoc_lt hi)]
theorem digs_snoc {l : List Int} {d : Int} (h : Digs (dg l)) (h0 : 0 ≤ d) (h1 : d ≤ 9999) : Digs (dg (l ++ [d])) := by
  intro i
  rcases Nat.lt_trichotomy i l.length with hi | hi | hi
  · rw [dg_snoc_lt hi]; exact h i
  · rw [hi, dg_snoc_eq]; exact ⟨h0, h1⟩
  · rw [dg_out (by simp; omega)]; exact ⟨by decide, by decide⟩
theorem digs_nil : Digs (dg []) := fun i => by unfold dg; simp
theorem digs_take {l : List Int} (h : Digs (dg l)) (n : Nat) : Digs (dg (l.take n)) := by
  intro i
  by_cases hi : i < n
  · have : dg (l.take n) i = dg l i := by unfold dg; rw [List.getD_eq_getElem?_getD, List.getD_eq_getElem?_getD, List.getElem?_take, if_pos hi]
    rw [this]; exact h i
  · rw [dg_out (by simp; omega)]; exact ⟨by decide, by decide⟩
/-- a digit ahead of the others -/
theorem dv_shift (f : Nat → Int) : ∀ n, dv f (n + 1) = f 0 + 10000 * dv (fun i => f (i + 1)) n
  | 0 => by simp [dv, pw]
  | n + 1 => by
    rw [dv, dv_shift f n, dv, pw_succ, Int.mul_add]
    rw [show f (n + 1) * (10000 * pw n) = 10000 * (f (n + 1) * pw n) from by rw [Int.mul_left_comm]]
    omega
theorem val_cons (d : Int) (l : List Int) : val (d :: l) = d + 10000 * val l := by
  unfold val
  rw [List.length_cons, dv_shift]
  rfl
theorem val_nil : val [] = 0 := rfl
/-- one digit is set -/
theorem dv_set {f g : Nat → Int} {k n : Nat} (hk : k < n) (h : ∀ i, i ≠ k → g i = f i) : dv g n = dv f n + (g k - f k) * pw k := by
  have h1 := dv_agree (f := g) (g := f) (k := k + 1) (n := n) hk (fun i a b => h i (by omega))
  rw [dv, dv, dv_congr k (fun i hi => h i (by omega))] at h1
  rw [Int.sub_mul]
  omega
end Go.Proofs.Ytljclgphgojphaa
namespace Go.Proofs.Ytljclgphgojphaa
open Go.RowKit
set_option linter.unusedVariables false

theorem Try.info3 : (Try.prog.info? 3).map (fun i => (i.zero, i.size, i.bytes)) = some (some (.int .i64 0), 1, 8) := by kernel_rfl

/-- a slice's digits, in a world -/
def DRow (w : World) (p : Option Addr) (len : Nat) (ds : List Int) : Prop :=
  ds.length = len ∧ Digs (dg ds) ∧ (len = 0 ∨ ∃ b off, p = some ⟨b, off, none⟩ ∧ b < w.heap.size ∧ ∀ i, i < len → w.cell? ⟨b, off + i, none⟩ = some (.int .i64 (dg ds i)))
theorem DRow.kept {w w' : World} {p : Option Addr} {len : Nat} {ds : List Int} (h : DRow w p len ds) (hb : Below w.heap.size w w') : DRow w' p len ds := by
  obtain ⟨h1, h2, h4⟩ := h
  refine ⟨h1, h2, ?_⟩
  rcases h4 with h4 | ⟨b, off, e, hlt, hc⟩
  · exact .inl h4
  · exact .inr ⟨b, off, e, Nat.lt_of_lt_of_le hlt hb.size, fun i hi => (hb.cell (p := ⟨b, off + i, none⟩) hlt).trans (hc i hi)⟩
theorem DRow.nil (w : World) (p : Option Addr) : DRow w p 0 [] := ⟨rfl, digs_nil, .inl rfl⟩
theorem DRow.taken {w : World} {p : Option Addr} {len n : Nat} {ds : List Int} (h : DRow w p len ds) (hn : n ≤ len) : DRow w p n (ds.take n) := by
  obtain ⟨h1, h2, h4⟩ := h
  refine ⟨by simp; omega, digs_take h2 n, ?_⟩
  rcases h4 with h4 | ⟨b, off, e, hlt, hc⟩
  · exact .inl (by omega)
  · refine .inr ⟨b, off, e, hlt, fun i hi => ?_⟩
    rw [hc i (by omega)]
    unfold dg
    rw [List.getD_eq_getElem?_getD, List.getD_eq_getElem?_getD, List.getElem?_take, if_pos hi]

/-- with a sign -/
def sgB (n : Bool) (q : Int) : Int := if n then -q else q
/-- a value that is an exact number, of at most L digits, none 0 at the end -/
def IsB (w : World) (v : Value) (L : Nat) (N : Int) : Prop :=
  ∃ (neg : Bool) (p : Option Addr) (len cap : Nat) (ds : List Int), v = .agg #[.bool neg, .slice p len cap] ∧ DRow w p len ds ∧ len ≤ cap ∧ (p = none → cap = 0) ∧ len ≤ L ∧ sgB neg (val ds) = N ∧ (ds = [] → neg = false) ∧ (0 < len → dg ds (len - 1) ≠ 0)
theorem IsB.kept {w w' : World} {v : Value} {L : Nat} {N : Int} (h : IsB w v L N) (hb : Below w.heap.size w w') : IsB w' v L N := by
  obtain ⟨neg, p, len, cap, ds, h1, h2, h3⟩ := h
  exact ⟨neg, p, len, cap, ds, h1, h2.kept hb, h3⟩
/-- what a call returns: an exact number -/
def RetB (w : World) (L : Nat) (N : Int) (e : Ending) (w' : World) : Prop := ∃ v, e = .returned v ∧ IsB w' v L N ∧ Below w.heap.size w w'

/-- a row of the call's own holds digits -/
theorem own_drow {w : World} {base : Nat} {v : Value} {n : Nat} {ds : List Int} (h : w.ownsRow base 3 1 v n (ds.map (.int .i64))) (hd : Digs (dg ds)) :
    ∃ p cap, v = .slice p n cap ∧ n ≤ cap ∧ (p = none → cap = 0) ∧ DRow w p n ds ∧ ∀ b off, p = some ⟨b, off, none⟩ → base ≤ b := by
  have hl : ds.length = n := by have := h.1; simpa using this
  rcases h.2 with ⟨rfl, h0⟩ | ⟨g, cap, cur, rfl, hg, hh, hn, hcm, hcs, htake⟩
  · subst h0
    exact ⟨none, 0, rfl, Nat.le_refl _, fun _ => rfl, ⟨hl, hd, .inl rfl⟩, fun _ _ h => by cases h⟩
  · refine ⟨_, cap, rfl, hn, (fun h => by cases h), ⟨hl, hd, ?_⟩, fun b off h => by simp at h; omega⟩
    refine .inr ⟨g, 0, rfl, (Array.getElem?_eq_some_iff.1 hh).1, fun i hi => ?_⟩
    have hk := h.cells (g := g) rfl i (.int .i64 (dg ds i)) (by
      rw [List.getElem?_map, List.getElem?_eq_getElem (by omega)]
      unfold dg
      rw [List.getD_eq_getElem?_getD, List.getElem?_eq_getElem (by omega)]
      rfl)
    have ha : (⟨g, 0, none⟩ : Addr).add i = ⟨g, 0 + i, none⟩ := by unfold Addr.add; split <;> simp_all
    rw [ha] at hk
    exact hk

/-- an append whose run is known -/
theorem wpList_app {P : Program} {w : World} {ops : Array Oper} {rest : List Oper} {o : Oper} {a : Act} {Q : Exit → Act → World → Prop} (hgd : o.guard = none) (s x : Operand) (t t' : TypeId)
    (ho : o.op = .call { callee := .builtin .append, args := #[s, x], argTypes := #[t, t'] }) (v y v' : Value) (w' : World) (hs : a.eval s = v) (hx : a.eval x = y)
    (hr : (Builtin.append_ #[t, t'] o.type #[v, y]).run P w = .ok v' w') (h : wpList P ops Q rest (a.put o.dst v') w') : wpList P ops Q (o :: rest) a w :=
  wpList_plain hgd fun _ hK => by
    unfold Oper.wp execOp
    simp only [ho, resolve, invoke, builtin, Sem.run_bind, Sem.run_pure, Result.andThen_ok, List.map_toArray, List.map_cons, List.map_nil, hs, hx, hr]
    exact hK _ _ h
theorem drow_store {w : World} {p : Option Addr} {len : Nat} {ds : List Int} (h : DRow w p len ds) {a : Addr} (hne : ∀ b off, p = some ⟨b, off, none⟩ → b ≠ a.block) (u : Value) : DRow (w.setCell a u) p len ds := by
  obtain ⟨h1, h2, h4⟩ := h
  refine ⟨h1, h2, ?_⟩
  rcases h4 with h4 | ⟨b, off, e, hlt, hc⟩
  · exact .inl h4
  · refine .inr ⟨b, off, e, by simpa [World.setCell] using hlt, fun i hi => ?_⟩
    rw [World.cell?_of_block (w := w) (Below.heap_setCell w a u b (hne b off e))]
    exact hc i hi

/-- what the digits of n that are told, and what is left of n, come to -/
structure OfInv (n0 m : Int) (ds : List Int) : Prop where
  digs : Digs (dg ds)
  eq : (if n0 < 0 then -n0 else n0) = val ds + (if m < 0 then -m else m) * pw ds.length
  sign : (n0 < 0 → m ≤ 0) ∧ (0 ≤ n0 → 0 ≤ m)
  last : m = 0 → 0 < ds.length → dg ds (ds.length - 1) ≠ 0
  none : ds = [] → m = n0
theorem OfInv.first (n0 : Int) : OfInv n0 n0 [] := ⟨digs_nil, by rw [val_nil]; simp [pw], by omega, fun _ h => by simp at h, fun _ => rfl⟩
theorem OfInv.short {n0 m : Int} {ds : List Int} (h : OfInv n0 m ds) (hn : -9223372036854775808 ≤ n0 ∧ n0 ≤ 9223372036854775807) (hm : m ≠ 0) : ds.length ≤ 4 := by
  apply Nat.le_of_not_lt
  intro hl
  have h1 := h.eq
  have h2 := (val_bd h.digs).1
  have h3 := pw_mono (show 5 ≤ ds.length from hl)
  have h4 : pw 5 = 100000000000000000000 := by decide
  have h5 : 1 * pw ds.length ≤ (if m < 0 then -m else m) * pw ds.length := Int.mul_le_mul_of_nonneg_right (by split <;> omega) (by omega)
  split at h1 <;> omega
theorem OfInv.next {n0 m : Int} {ds : List Int} (h : OfInv n0 m ds) (hm : m ≠ 0) (d : Int) (hd : d = (if m < 0 then -m else m) % 10000) (m' : Int) (hm' : m' = m.tdiv 10000) : OfInv n0 m' (ds ++ [d]) := by
  have e1 : (if m' < 0 then -m' else m') = (if m < 0 then -m else m) / 10000 := by
    rw [hm']
    by_cases hneg : m < 0
    · rw [if_pos hneg, show m = -(-m) from by omega, Int.neg_tdiv, Int.tdiv_eq_ediv_of_nonneg (by omega)]
      split <;> omega
    · rw [if_neg hneg, Int.tdiv_eq_ediv_of_nonneg (by omega), if_neg (by omega)]
  have e2 : (m < 0 → m' ≤ 0) ∧ (0 ≤ m → 0 ≤ m') := by
    rw [hm']
    refine ⟨fun hneg => ?_, fun hpos => ?_⟩
    · rw [show m = -(-m) from by omega, Int.neg_tdiv, Int.tdiv_eq_ediv_of_nonneg (by omega)]; omega
    · rw [Int.tdiv_eq_ediv_of_nonneg (by omega)]; omega
  have hs := h.sign
  have hq := h.eq
  generalize ha : (if m < 0 then -m else m) = a at *
  have a0 : 0 < a := by rw [← ha]; split <;> omega
  refine ⟨digs_snoc h.digs (by omega) (by omega), ?_, by omega, ?_, fun h => by simp at h⟩
  · rw [hq, val_snoc, e1, List.length_append, List.length_singleton, pw_succ]
    have e3 : a = d + 10000 * (a / 10000) := by omega
    have e4 : a * pw ds.length = d * pw ds.length + a / 10000 * (10000 * pw ds.length) := by
      rw [Int.mul_left_comm, ← Int.mul_assoc, ← Int.add_mul, ← e3]
    rw [e4]
    omega
  · intro h0 _
    rw [List.length_append, List.length_singleton, Nat.add_sub_cancel, dg_snoc_eq]
    rw [h0] at e1
    simp at e1
    omega

theorem RetB.more {w : World} {L L' : Nat} {N N' : Int} {e : Ending} {w' : World} (h : RetB w L N e w') (hL : L ≤ L') (hN : N = N') : RetB w L' N' e w' := by
  obtain ⟨v, he, ⟨neg, p, len, cap, ds, h1, h2, h3, h4, h5, h6, h7⟩, hb⟩ := h
  exact ⟨v, he, ⟨neg, p, len, cap, ds, h1, h2, h3, h4, Nat.le_trans h5 hL, h6.trans hN, h7⟩, hb⟩

end Go.Proofs.Ytljclgphgojphaa
