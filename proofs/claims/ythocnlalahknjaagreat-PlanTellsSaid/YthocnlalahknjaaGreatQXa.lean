/- Plain arithmetic of numbers by digits of ten thousands: no Go text.
  The contracts of the reference's numbers of any size: digit, trim, Of, Turned.
  The contract of the reference's larger.
  The contract of the reference's Add: where the signs are alike.
  The contract of the reference's Add: where the signs differ; and of all. -/
import Derived.Below
import Derived.Test.YthocnlalahknjaaGreatProg
import Derived.WalkKit
import Derived.Lib.Hide
import Derived.Outline
import Derived.OwnWalk
import Derived.Laws.AppendOwn
import Derived.Deep.DeepCutAuto
import Derived.Deep.CutBlock
import Derived.Deep.RegionWith
import Derived.Deep.QuietTactic
import Derived.BigQuiet
import Derived.RegionTactic
import Derived.ChangeAlike
import Derived.WalkSpells
import Derived.Deep.RegionHeld3
namespace Go.Proofs.YthocnlalahknjaaGreat
set_option linter.unusedVariables false

/-- the power of ten thousand -/
def pw (n : Nat) : Int := 10000 ^ n
theorem pw_zero : pw 0 = 1 := rfl
theorem pw_succ (n : Nat) : pw (n + 1) = 10000 * pw n := by unfold pw; rw [Int.pow_succ, Int.mul_comm]
theorem pw_pos (n : Nat) : 1 ≤ pw n := by
  induction n with
  | zero => simp [pw]
  | succ n ih => rw [pw_succ]; omega
theorem pw_add (m n : Nat) : pw (m + n) = pw m * pw n := by unfold pw; rw [Int.pow_add]
theorem pw_mono {m n : Nat} (h : m ≤ n) : pw m ≤ pw n := by
  obtain ⟨k, rfl⟩ := Nat.exists_eq_add_of_le h
  induction k with
  | zero => simp
  | succ k ih => rw [← Nat.add_assoc, pw_succ]; have := ih (by omega); have := pw_pos (m + k); omega

/-- the number of the first n digits -/
def dv (f : Nat → Int) : Nat → Int
  | 0 => 0
  | n + 1 => dv f n + f n * pw n
def Digs (f : Nat → Int) : Prop := ∀ i, 0 ≤ f i ∧ f i ≤ 9999

theorem dig_mul {d n : Int} (h0 : 0 ≤ d) (h1 : d ≤ 9999) (p : 1 ≤ n) : 0 ≤ d * n ∧ d * n ≤ 9999 * n :=
  ⟨Int.mul_nonneg h0 (by omega), Int.mul_le_mul_of_nonneg_right h1 (by omega)⟩
theorem dv_bd {f : Nat → Int} (hf : Digs f) : ∀ n, 0 ≤ dv f n ∧ dv f n < pw n
  | 0 => by simp [dv, pw]
  | n + 1 => by
    obtain ⟨h1, h2⟩ := dv_bd hf n
    obtain ⟨d0, d1⟩ := hf n
    obtain ⟨m0, m1⟩ := dig_mul d0 d1 (pw_pos n)
    rw [dv, pw_succ]
    omega
theorem dv_congr {f g : Nat → Int} : ∀ n, (∀ i, i < n → f i = g i) → dv f n = dv g n
  | 0, _ => rfl
  | n + 1, h => by rw [dv, dv, dv_congr n (fun i hi => h i (by omega)), h n (by omega)]
theorem dv_ext {f : Nat → Int} {m n : Nat} (h : m ≤ n) (hz : ∀ i, m ≤ i → f i = 0) : dv f n = dv f m := by
  obtain ⟨k, rfl⟩ := Nat.exists_eq_add_of_le h
  induction k with
  | zero => rfl
  | succ k ih => rw [← Nat.add_assoc, dv, ih (by omega), hz (m + k) (by omega), Int.zero_mul, Int.add_zero]
theorem dv_mono {f : Nat → Int} (hf : Digs f) {m n : Nat} (h : m ≤ n) : dv f m ≤ dv f n := by
  obtain ⟨k, rfl⟩ := Nat.exists_eq_add_of_le h
  induction k with
  | zero => exact Int.le_refl _
  | succ k ih =>
    obtain ⟨d0, d1⟩ := hf (m + k)
    have := (dig_mul d0 d1 (pw_pos (m + k))).1
    rw [← Nat.add_assoc, dv]
    have := ih (by omega)
    omega
/-- digits that agree from k on -/
theorem dv_agree {f g : Nat → Int} {k n : Nat} (h : k ≤ n) (he : ∀ i, k ≤ i → i < n → f i = g i) : dv f n - dv g n = dv f k - dv g k := by
  obtain ⟨j, rfl⟩ := Nat.exists_eq_add_of_le h
  induction j with
  | zero => rfl
  | succ j ih =>
    rw [← Nat.add_assoc, dv, dv, he (k + j) (by omega) (by omega)]
    have := ih (by omega) (fun i h1 h2 => he i h1 (by omega))
    omega
theorem dv_first {f g : Nat → Int} (hf : Digs f) (hg : Digs g) {k n : Nat} (h : k < n) (he : ∀ i, k < i → i < n → f i = g i) (hk : g k < f k) : dv g n < dv f n := by
  have h1 := dv_agree (f := f) (g := g) (k := k + 1) (n := n) h (fun i a b => he i (by omega) b)
  have h2 := dv_bd hf k
  have h3 := dv_bd hg k
  rw [dv, dv] at h1
  have h4 : (f k - g k) * pw k ≥ 1 * pw k := Int.mul_le_mul_of_nonneg_right (by omega) (by have := pw_pos k; omega)
  rw [Int.sub_mul, Int.one_mul] at h4
  omega
/-- a digit that is not 0 is seen in the number -/
theorem dv_zero {f : Nat → Int} (hf : Digs f) {m n : Nat} (hm : dv f n < pw m) : ∀ i, m ≤ i → i < n → f i = 0 := by
  intro i h1 h2
  have h3 := dv_mono hf (show i + 1 ≤ n from h2)
  have h4 := (dv_bd hf i).1
  obtain ⟨d0, d1⟩ := hf i
  have h5 := pw_mono h1
  have h6 := pw_pos i
  apply Int.le_antisymm ?_ d0
  apply Int.not_lt.1
  intro hlt
  have h7 : 1 * pw i ≤ f i * pw i := Int.mul_le_mul_of_nonneg_right (by omega) (by omega)
  rw [dv] at h3
  omega

/-- a list's digits -/
def dg (l : List Int) : Nat → Int := fun i => l.getD i 0
def val (l : List Int) : Int := dv (dg l) l.length
theorem dg_out {l : List Int} {i : Nat} (h : l.length ≤ i) : dg l i = 0 := by unfold dg; rw [List.getD_eq_getElem?_getD, List.getElem?_eq_none h]; rfl
theorem val_ext {l : List Int} {n : Nat} (h : l.length ≤ n) : dv (dg l) n = val l := dv_ext h (fun i hi => dg_out hi)
theorem val_bd {l : List Int} (hd : Digs (dg l)) : 0 ≤ val l ∧ val l < pw l.length := dv_bd hd _
theorem val_take {l : List Int} {n : Nat} (h : n ≤ l.length) (hz : ∀ i, n ≤ i → dg l i = 0) : val (l.take n) = val l := by
  unfold val
  rw [dv_ext h hz, List.length_take, Nat.min_eq_left h]
  apply dv_congr
  intro i hi
  unfold dg
  rw [List.getD_eq_getElem?_getD, List.getD_eq_getElem?_getD, List.getElem?_take, if_pos hi]
theorem dg_snoc_lt {l : List Int} {d : Int} {i : Nat} (h : i < l.length) : dg (l ++ [d]) i = dg l i := by
  unfold dg; rw [List.getD_eq_getElem?_getD, List.getD_eq_getElem?_getD, List.getElem?_append_left h]
theorem dg_snoc_eq {l : List Int} {d : Int} : dg (l ++ [d]) l.length = d := by
  unfold dg; rw [List.getD_eq_getElem?_getD, List.getElem?_append_right (Nat.le_refl _)]; simp
theorem val_snoc (l : List Int) (d : Int) : val (l ++ [d]) = val l + d * pw l.length := by
  unfold val
  rw [show (l ++ [d]).length = l.length + 1 from by simp, dv, dg_snoc_eq, dv_congr l.length (fun i hi => dg_snoc_lt hi)]
theorem digs_snoc {l : List Int} {d : Int} (h : Digs (dg l)) (h0 : 0 ≤ d) (h1 : d ≤ 9999) : Digs (dg (l ++ [d])) := by
  intro i
  rcases Nat.lt_trichotomy i l.length with hi | hi | hi
  · rw [dg_snoc_lt hi]; exact h i
  · rw [hi, dg_snoc_eq]; exact ⟨h0, h1⟩
  · rw [dg_out (by simp; omega)]; exact ⟨by decide, by decide⟩
theorem digs_nil : Digs (dg []) := fun i => by unfold dg; simp
theorem digs_take {l : List Int} (h : Digs (dg l)) (n : Nat) : Digs (dg (l.take n)) := by
  intro i
  by_cases hi : i < n
  · have : dg (l.take n) i = dg l i := by unfold dg; rw [List.getD_eq_getElem?_getD, List.getD_eq_getElem?_getD, List.getElem?_take, if_pos hi]
    rw [this]; exact h i
  · rw [dg_out (by simp; omega)]; exact ⟨by decide, by decide⟩
/-- a digit ahead of the others -/
theorem dv_shift (f : Nat → Int) : ∀ n, dv f (n + 1) = f 0 + 10000 * dv (fun i => f (i + 1)) n
  | 0 => by simp [dv, pw]
  | n + 1 => by
    rw [dv, dv_shift f n, dv, pw_succ, Int.mul_add]
    rw [show f (n + 1) * (10000 * pw n) = 10000 * (f (n + 1) * pw n) from by rw [Int.mul_left_comm]]
    omega
theorem val_cons (d : Int) (l : List Int) : val (d :: l) = d + 10000 * val l := by
  unfold val
  rw [List.length_cons, dv_shift]
  rfl
theorem val_nil : val [] = 0 := rfl
/-- one digit is set -/
theorem dv_set {f g : Nat → Int} {k n : Nat} (hk : k < n) (h : ∀ i, i ≠ k → g i = f i) : dv g n = dv f n + (g k - f k) * pw k := by
  have h1 := dv_agree (f := g) (g := f) (k := k + 1) (n := n) hk (fun i a b => h i (by omega))
  rw [dv, dv, dv_congr k (fun i hi => h i (by omega))] at h1
  rw [Int.sub_mul]
  omega
end Go.Proofs.YthocnlalahknjaaGreat
namespace Go.Proofs.YthocnlalahknjaaGreat
open Go.RowKit
set_option linter.unusedVariables false

theorem Tryz.info3 : (Tryz.prog.info? 3).map (fun i => (i.zero, i.size, i.bytes)) = some (some (.int .i64 0), 1, 8) := by kernel_rfl

/-- a block of ints -/
def Blk3 (w : World) (b : Nat) : Prop := ∃ cur fr, w.heap[b]? = some (.cells cur 3 fr)
theorem Blk3.lt {w : World} {b : Nat} (h : Blk3 w b) : b < w.heap.size := by
  obtain ⟨cur, fr, e⟩ := h
  exact (Array.getElem?_eq_some_iff.1 e).1
theorem Blk3.kept {w w' : World} {b n : Nat} (h : Blk3 w b) (hb : Below n w w') (hn : b < n) : Blk3 w' b := by
  obtain ⟨cur, fr, e⟩ := h
  exact ⟨cur, fr, (hb.block b hn).trans e⟩
theorem Blk3.set {w : World} {b : Nat} (h : Blk3 w b) (a : Addr) (u : Value) : Blk3 (w.setCell a u) b := by
  obtain ⟨cur, fr, e⟩ := h
  by_cases hb : a.block = b
  · cases hsp : a.spot.isSome with
    | true => exact ⟨cur, fr, by simp [World.setCell, Array.getElem?_modify, hb, e, hsp]⟩
    | false => exact ⟨cur.setIfInBounds a.off u, fr, by simp [World.setCell, Array.getElem?_modify, hb, e, hsp]⟩
  · exact ⟨cur, fr, (Below.heap_setCell w a u b (fun e => hb e.symm)).trans e⟩
/-- a slice's digits, in a world -/
def DRow (w : World) (p : Option Addr) (len : Nat) (ds : List Int) : Prop :=
  ds.length = len ∧ Digs (dg ds) ∧ (len = 0 ∨ ∃ b off, p = some ⟨b, off, none⟩ ∧ Blk3 w b ∧ ∀ i, i < len → w.cell? ⟨b, off + i, none⟩ = some (.int .i64 (dg ds i)))
theorem DRow.kept {w w' : World} {p : Option Addr} {len : Nat} {ds : List Int} (h : DRow w p len ds) (hb : Below w.heap.size w w') : DRow w' p len ds := by
  obtain ⟨h1, h2, h4⟩ := h
  refine ⟨h1, h2, ?_⟩
  rcases h4 with h4 | ⟨b, off, e, hlt, hc⟩
  · exact .inl h4
  · exact .inr ⟨b, off, e, hlt.kept hb hlt.lt, fun i hi => (hb.cell (p := ⟨b, off + i, none⟩) hlt.lt).trans (hc i hi)⟩
theorem DRow.nil (w : World) (p : Option Addr) : DRow w p 0 [] := ⟨rfl, digs_nil, .inl rfl⟩
theorem DRow.taken {w : World} {p : Option Addr} {len n : Nat} {ds : List Int} (h : DRow w p len ds) (hn : n ≤ len) : DRow w p n (ds.take n) := by
  obtain ⟨h1, h2, h4⟩ := h
  refine ⟨by simp; omega, digs_take h2 n, ?_⟩
  rcases h4 with h4 | ⟨b, off, e, hlt, hc⟩
  · exact .inl (by omega)
  · refine .inr ⟨b, off, e, hlt, fun i hi => ?_⟩
    rw [hc i (by omega)]
    unfold dg
    rw [List.getD_eq_getElem?_getD, List.getD_eq_getElem?_getD, List.getElem?_take, if_pos hi]

/-- with a sign -/
def sgB (n : Bool) (q : Int) : Int := if n then -q else q
/-- a value that is an exact number, of at most L digits, none 0 at the end -/
def IsB (w : World) (v : Value) (L : Nat) (N : Int) : Prop :=
  ∃ (neg : Bool) (p : Option Addr) (len cap : Nat) (ds : List Int), v = .agg #[.bool neg, .slice p len cap] ∧ DRow w p len ds ∧ len ≤ cap ∧ (p = none → cap = 0) ∧ len ≤ L ∧ sgB neg (val ds) = N ∧ (ds = [] → neg = false) ∧ (0 < len → dg ds (len - 1) ≠ 0)
theorem IsB.kept {w w' : World} {v : Value} {L : Nat} {N : Int} (h : IsB w v L N) (hb : Below w.heap.size w w') : IsB w' v L N := by
  obtain ⟨neg, p, len, cap, ds, h1, h2, h3⟩ := h
  exact ⟨neg, p, len, cap, ds, h1, h2.kept hb, h3⟩
/-- what a call returns: an exact number -/
def RetB (w : World) (L : Nat) (N : Int) (e : Ending) (w' : World) : Prop := ∃ v, e = .returned v ∧ IsB w' v L N ∧ Below w.heap.size w w'

set_option maxHeartbeats 400000 in
theorem digit_any (neg : Bool) (p : Option Addr) (len cap i : Nat) (ds : List Int) (w : World) (h : DRow w p len ds) (hi : i ≤ 4611686018427387904) :
    Calls Tryz.prog 56 #[.agg #[.bool neg, .slice p len cap], .int .i64 i] w fun e w' => e = .returned (.int .i64 (dg ds i)) ∧ Below w.heap.size w w' := by
  obtain ⟨hl, hd, hc⟩ := h
  by_cases hlt : i < len
  · obtain ⟨b, off, rfl, hb3, hcell⟩ := hc.resolve_left (by omega)
    have hb := hb3.lt
    clear hb3
    have hne : b ≠ w.heap.size := by omega
    have h1 := hcell i hlt
    generalize dg ds i = d at *
    clear hcell hd hl
    go_enter Tryz.func56, Tryz.ntmps56
    go_wp2
    go_ret
    exact ⟨rfl, (Below.refl _ _).alloc (Nat.le_refl _) _⟩
  · rw [dg_out (by omega)]
    clear hc hd hl
    go_enter Tryz.func56, Tryz.ntmps56
    go_wp2
    go_ret
    exact ⟨rfl, (Below.refl _ _).alloc (Nat.le_refl _) _⟩

set_option maxHeartbeats 1000000 in
theorem trim_any (neg : Bool) (p : Option Addr) (len cap : Nat) (ds : List Int) (w : World) (h : DRow w p len ds) (hcap : len ≤ cap) (hp : p = none → cap = 0) (hm : len ≤ 1000000) :
    Calls Tryz.prog 57 #[.agg #[.bool neg, .slice p len cap]] w (RetB w len (sgB neg (val ds))) := by
  have hrow := h
  obtain ⟨hl, hd, hc⟩ := h
  replace hc := Lib.hid hc
  replace hd := Lib.hid hd
  replace hl := Lib.hid hl
  replace hp := Lib.hid hp
  replace hrow := Lib.hid hrow
  go_enter Tryz.func57, Tryz.ntmps57
  go_upto_block 0 with (fail)
  go_cut [3] (fun t wc => ∃ n : Nat, n ≤ len ∧ t = .int .i64 n ∧ (∀ i, n ≤ i → dg ds i = 0) ∧ (0 < n → dg ds (n - 1) ≠ 0) ∧ wc = ((w.alloc (Obj.cells #[Value.bool neg, Value.slice p len cap] 79)).alloc
    (Obj.cells #[Value.bool false, Value.slice none 0 0] 79)))
  case first =>
    go_wp2_with fail
    go_loop [3] (fun t => ∃ n : Nat, n ≤ len ∧ t = .int .i64 n ∧ Hid (∀ i, n ≤ i → dg ds i = 0)) (fun t => (intOf t).toNat)
    case atStart => exact ⟨len, Nat.le_refl _, rfl, fun i hi => dg_out (by rw [hl.out]; exact hi)⟩
    case round =>
      obtain ⟨n, hn, rfl, hz⟩ := hrel
      cases n with
      | zero =>
        go_wp2_with fail
        go_meet
        exact ⟨0, by omega, rfl, hz, by omega, rfl⟩
      | succ k =>
        obtain ⟨b, off, rfl, hb3, hcell⟩ := hc.out.resolve_left (by omega)
        have hb := hb3.lt
        clear hb3
        have h1 := hcell k (by omega)
        have hne : b ≠ w.heap.size := by omega
        have hne' : b ≠ w.heap.size + 1 := by omega
        clear hcell
        by_cases hd0 : dg ds k = 0
        · rw [hd0] at h1
          replace hd0 := Lib.hid hd0
          go_wp2_with fail
          refine ⟨⟨k, by omega, by go_num, fun i hi => ?_⟩, by simp [intOf]⟩
          by_cases hik : i = k
          · rw [hik]; exact hd0.out
          · exact hz.out i (by omega)
        · have h2 : (dg ds k == 0) = false := by simpa using hd0
          generalize hg : dg ds k = d at *
          replace hg := Lib.hid hg
          replace hd0 := Lib.hid hd0
          go_wp2_with fail
          go_meet
          exact ⟨k + 1, hn, by go_num, hz, fun _ => by rw [Nat.add_sub_cancel, hg.out]; exact hd0.out, rfl⟩
  case rest =>
    obtain ⟨n, hn, rfl, hz, hlast, rfl⟩ := hcut
    replace hz := Lib.hid hz
    replace hlast := Lib.hid hlast
    by_cases h0 : n = 0
    · subst h0
      go_wp2_with fail
      have hv : val ds = 0 := by rw [← val_take (Nat.zero_le _) hz.out]; rfl
      refine bodyPost_ret (v := .agg #[.bool false, .slice none 0 0]) (by simp [results, Tryz.results57, go_sem]) rfl ⟨_, rfl, ⟨false, none, 0, 0, [], rfl, DRow.nil _ _, Nat.le_refl _, fun _ => rfl, Nat.zero_le _, ?_, fun _ => rfl, by omega⟩, ?_⟩
      · rw [hv]; cases neg <;> rfl
      · exact ((Below.refl _ _).alloc (Nat.le_refl _) _).alloc (by simp) _
    · have h1 : ((n : Int) == 0) = false := by simpa using h0
      have h2 : (n : Int) ≤ (cap : Int) := by omega
      go_wp2_with fail
      go_region
      go_wp2_with fail
      have hB : Below w.heap.size w ((w.alloc (Obj.cells #[Value.bool neg, Value.slice p len cap] 79)).alloc (Obj.cells #[Value.bool neg, Value.slice p n cap] 79)).drew := (((Below.refl _ _).alloc (Nat.le_refl _) _).alloc (by simp) _).drew
      refine bodyPost_ret (v := .agg #[.bool neg, .slice p n cap]) (by simp [results, Tryz.results57, go_sem]) rfl ⟨_, rfl, ⟨neg, p, n, cap, ds.take n, rfl, (hrow.out.taken hn).kept hB, by omega, hp.out, hn, ?_, ?_, ?_⟩, hB⟩
      · rw [val_take (by rw [hl.out]; exact hn) hz.out]
      · intro he
        have : (ds.take n).length = 0 := by rw [he]; rfl
        rw [List.length_take, hl.out] at this
        omega
      · intro _
        have := hlast.out (by omega)
        have e : dg (ds.take n) (n - 1) = dg ds (n - 1) := by
          unfold dg
          rw [List.getD_eq_getElem?_getD, List.getD_eq_getElem?_getD, List.getElem?_take, if_pos (by omega)]
        rw [e]
        exact this

/-- a row of the call's own holds digits -/
theorem own_drow {w : World} {base : Nat} {v : Value} {n : Nat} {ds : List Int} (h : w.ownsRow base 3 1 v n (ds.map (.int .i64))) (hd : Digs (dg ds)) :
    ∃ p cap, v = .slice p n cap ∧ n ≤ cap ∧ (p = none → cap = 0) ∧ DRow w p n ds ∧ ∀ b off, p = some ⟨b, off, none⟩ → base ≤ b := by
  have hl : ds.length = n := by have := h.1; simpa using this
  rcases h.2 with ⟨rfl, h0⟩ | ⟨g, cap, cur, rfl, hg, hh, hn, hcm, hcs, htake⟩
  · subst h0
    exact ⟨none, 0, rfl, Nat.le_refl _, fun _ => rfl, ⟨hl, hd, .inl rfl⟩, fun _ _ h => by cases h⟩
  · refine ⟨_, cap, rfl, hn, (fun h => by cases h), ⟨hl, hd, ?_⟩, fun b off h => by simp at h; omega⟩
    refine .inr ⟨g, 0, rfl, ⟨_, _, hh⟩, fun i hi => ?_⟩
    have hk := h.cells (g := g) rfl i (.int .i64 (dg ds i)) (by
      rw [List.getElem?_map, List.getElem?_eq_getElem (by omega)]
      unfold dg
      rw [List.getD_eq_getElem?_getD, List.getElem?_eq_getElem (by omega)]
      rfl)
    have ha : (⟨g, 0, none⟩ : Addr).add i = ⟨g, 0 + i, none⟩ := by unfold Addr.add; split <;> simp_all
    rw [ha] at hk
    exact hk

/-- an append whose run is known -/
theorem wpList_app {P : Program} {w : World} {ops : Array Oper} {rest : List Oper} {o : Oper} {a : Act} {Q : Exit → Act → World → Prop} (hgd : o.guard = none) (s x : Operand) (t t' : TypeId)
    (ho : o.op = .call { callee := .builtin .append, args := #[s, x], argTypes := #[t, t'] }) (v y v' : Value) (w' : World) (hs : a.eval s = v) (hx : a.eval x = y)
    (hr : (Builtin.append_ #[t, t'] o.type #[v, y]).run P w = .ok v' w') (h : wpList P ops Q rest (a.put o.dst v') w') : wpList P ops Q (o :: rest) a w :=
  wpList_plain hgd fun _ hK => by
    unfold Oper.wp execOp
    simp only [ho, resolve, invoke, builtin, Sem.run_bind, Sem.run_pure, Result.andThen_ok, List.map_toArray, List.map_cons, List.map_nil, hs, hx, hr]
    exact hK _ _ h
/-- one digit more on a row of the call's own -/
theorem append_digit (wr : World) (B : Nat) (v : Value) (ds : List Int) (d : Int) (hown : wr.ownsRow B 3 1 v ds.length (ds.map (.int .i64))) (hB : B ≤ wr.heap.size) (hl : ds.length ≤ 1000000) :
    ∃ g c w', (Builtin.append_ #[35, 35] 35 #[v, .slice (some ⟨wr.heap.size, 0, none⟩) 1 1]).run Tryz.prog (wr.alloc (.cells #[.int .i64 d] 3)) = .ok (.slice (some ⟨g, 0, none⟩) (ds.length + 1) c) w' ∧
      w'.ownsRow B 3 1 (.slice (some ⟨g, 0, none⟩) (ds.length + 1) c) (ds ++ [d]).length ((ds ++ [d]).map (.int .i64)) ∧ Below B wr w' := by
  obtain ⟨i0, hi, hz0, hz1, hz2⟩ := info_parts Tryz.info3
  obtain ⟨v', w', hrun, hown', hgrow, _⟩ := run_append_own (P := Tryz.prog) (wr.alloc (.cells #[.int .i64 d] 3)) B 35 35 3 i0 (.int .i64 0) 1 8 Tryz.underlying35 hi hz0 hz1 hz2 rfl (by decide)
    v ds.length (ds.map (.int .i64)) (hown.alloc _) ⟨wr.heap.size, 0, none⟩ 1 1 [.int .i64 d] rfl (by
      intro j u hu
      cases j with
      | zero =>
        simp at hu
        subst hu
        have ha : (⟨wr.heap.size, 0, none⟩ : Addr).add 0 = ⟨wr.heap.size, 0, none⟩ := by unfold Addr.add; split <;> simp_all
        rw [ha]
        go_simp
      | succ j => simp at hu) (by
      intro u hu
      simp at hu
      subst hu
      rfl) (by unfold maxLen; omega) (by omega) (by simp; omega)
  obtain ⟨g, c, rfl⟩ : ∃ g c, v' = .slice (some ⟨g, 0, none⟩) (ds.length + 1) c := by
    rcases hown'.2 with ⟨_, h0⟩ | ⟨g, cap, cur, e, _⟩
    · omega
    · exact ⟨g, cap, e⟩
  refine ⟨g, c, w', hrun, ?_, ?_⟩
  · rw [List.length_append, List.map_append]
    exact hown'
  · refine ((Below.refl _ _).alloc hB _).grown hgrow (by simp; omega) (fun k hk => ?_)
    exact (hown.lt k hk).1

theorem drow_store {w : World} {p : Option Addr} {len : Nat} {ds : List Int} (h : DRow w p len ds) {a : Addr} (hne : ∀ b off, p = some ⟨b, off, none⟩ → b ≠ a.block) (u : Value) : DRow (w.setCell a u) p len ds := by
  obtain ⟨h1, h2, h4⟩ := h
  refine ⟨h1, h2, ?_⟩
  rcases h4 with h4 | ⟨b, off, e, hlt, hc⟩
  · exact .inl h4
  · refine .inr ⟨b, off, e, hlt.set a u, fun i hi => ?_⟩
    rw [World.cell?_of_block (w := w) (Below.heap_setCell w a u b (hne b off e))]
    exact hc i hi

/-- what the digits of n that are told, and what is left of n, come to -/
structure OfInv (n0 m : Int) (ds : List Int) : Prop where
  digs : Digs (dg ds)
  eq : (if n0 < 0 then -n0 else n0) = val ds + (if m < 0 then -m else m) * pw ds.length
  sign : (n0 < 0 → m ≤ 0) ∧ (0 ≤ n0 → 0 ≤ m)
  last : m = 0 → 0 < ds.length → dg ds (ds.length - 1) ≠ 0
  none : ds = [] → m = n0
theorem OfInv.first (n0 : Int) : OfInv n0 n0 [] := ⟨digs_nil, by rw [val_nil]; simp [pw], by omega, fun _ h => by simp at h, fun _ => rfl⟩
theorem OfInv.short {n0 m : Int} {ds : List Int} (h : OfInv n0 m ds) (hn : -9223372036854775808 ≤ n0 ∧ n0 ≤ 9223372036854775807) (hm : m ≠ 0) : ds.length ≤ 4 := by
  apply Nat.le_of_not_lt
  intro hl
  have h1 := h.eq
  have h2 := (val_bd h.digs).1
  have h3 := pw_mono (show 5 ≤ ds.length from hl)
  have h4 : pw 5 = 100000000000000000000 := by decide
  have h5 : 1 * pw ds.length ≤ (if m < 0 then -m else m) * pw ds.length := Int.mul_le_mul_of_nonneg_right (by split <;> omega) (by omega)
  split at h1 <;> omega
theorem OfInv.next {n0 m : Int} {ds : List Int} (h : OfInv n0 m ds) (hm : m ≠ 0) (d : Int) (hd : d = (if m < 0 then -m else m) % 10000) (m' : Int) (hm' : m' = m.tdiv 10000) : OfInv n0 m' (ds ++ [d]) := by
  have e1 : (if m' < 0 then -m' else m') = (if m < 0 then -m else m) / 10000 := by
    rw [hm']
    by_cases hneg : m < 0
    · rw [if_pos hneg, show m = -(-m) from by omega, Int.neg_tdiv, Int.tdiv_eq_ediv_of_nonneg (by omega)]
      split <;> omega
    · rw [if_neg hneg, Int.tdiv_eq_ediv_of_nonneg (by omega), if_neg (by omega)]
  have e2 : (m < 0 → m' ≤ 0) ∧ (0 ≤ m → 0 ≤ m') := by
    rw [hm']
    refine ⟨fun hneg => ?_, fun hpos => ?_⟩
    · rw [show m = -(-m) from by omega, Int.neg_tdiv, Int.tdiv_eq_ediv_of_nonneg (by omega)]; omega
    · rw [Int.tdiv_eq_ediv_of_nonneg (by omega)]; omega
  have hs := h.sign
  have hq := h.eq
  generalize ha : (if m < 0 then -m else m) = a at *
  have a0 : 0 < a := by rw [← ha]; split <;> omega
  refine ⟨digs_snoc h.digs (by omega) (by omega), ?_, by omega, ?_, fun h => by simp at h⟩
  · rw [hq, val_snoc, e1, List.length_append, List.length_singleton, pw_succ]
    have e3 : a = d + 10000 * (a / 10000) := by omega
    have e4 : a * pw ds.length = d * pw ds.length + a / 10000 * (10000 * pw ds.length) := by
      rw [Int.mul_left_comm, ← Int.mul_assoc, ← Int.add_mul, ← e3]
    rw [e4]
    omega
  · intro h0 _
    rw [List.length_append, List.length_singleton, Nat.add_sub_cancel, dg_snoc_eq]
    rw [h0] at e1
    simp at e1
    omega

set_option maxRecDepth 100000 in
set_option maxHeartbeats 2000000 in
theorem of_any (n : Int) (w : World) (n0 : -9223372036854775808 ≤ n) (n1 : n ≤ 9223372036854775807) :
    Calls Tryz.prog 30 #[.int .i64 n] w (RetB w 5 n) := by
  obtain ⟨i0, hi, hz0, hz1, hz2⟩ := info_parts Tryz.info3
  obtain ⟨neg, hneg⟩ : ∃ neg, decide (n < 0) = neg := ⟨_, rfl⟩
  replace hneg := Lib.hid hneg
  replace hi := Lib.hid hi
  replace hz0 := Lib.hid hz0
  replace hz1 := Lib.hid hz1
  replace hz2 := Lib.hid hz2
  go_enter Tryz.func30, Tryz.ntmps30
  go_upto_block 0 with (fail)
  rw [hneg.out]
  go_wp2_with fail
  go_loopw [0] (fun t wr => ∃ (m : Int) (ds : List Int) (v : Value), t = .int .i64 m ∧ (-9223372036854775808 ≤ m ∧ m ≤ 9223372036854775807) ∧ (OfInv n m ds ∧ ds.length ≤ 5) ∧ wr.cell? ⟨w.heap.size + 1, 0, none⟩ = some (.bool neg) ∧ wr.cell? ⟨w.heap.size + 1, 1, none⟩ = some v ∧
      wr.frozen? ⟨w.heap.size + 1, 1, none⟩ = false ∧ w.heap.size + 1 < wr.heap.size ∧ wr.ownsRow (w.heap.size + 2) 3 1 v ds.length (ds.map (.int .i64)) ∧ Below (w.heap.size + 1) (w.alloc (Obj.cells #[Value.bool false, Value.slice none 0 0] 79)) wr)
    (fun t _ => (intOf t).natAbs)
  case atStart => exact ⟨n, [], .slice none 0 0, rfl, ⟨n0, n1⟩, ⟨OfInv.first n, by simp⟩, by go_simp, by go_simp, by go_simp, by simp, World.ownsRow_nil _ _ _ _, (Below.refl _ _).alloc (by simp) _⟩
  case round =>
    obtain ⟨m, ds, v, rfl, ⟨m0, m1⟩, ⟨inv, hlen⟩, c0, c1, f1, hsz, hown, hbel⟩ := hrel
    by_cases hm : m = 0
    · have h1 : (m != 0) = false := by simpa using hm
      obtain ⟨p, cap, rfl, hlc, hpc, hrow, hbase⟩ := own_drow hown inv.digs
      replace hbase := Lib.hid hbase
      have g0 := hbel.cell (p := ⟨w.heap.size, 0, none⟩) (by simp)
      have g1 := hbel.cell (p := ⟨w.heap.size, 1, none⟩) (by simp)
      have k0 := hbel.frozen (p := ⟨w.heap.size, 0, none⟩) (by simp)
      have k1 := hbel.frozen (p := ⟨w.heap.size, 1, none⟩) (by simp)
      have g0' : wr.cell? ⟨w.heap.size, 0, none⟩ = some (.bool false) := by rw [g0]; go_simp
      have g1' : wr.cell? ⟨w.heap.size, 1, none⟩ = some (.slice none 0 0) := by rw [g1]; go_simp
      have k0' : wr.frozen? ⟨w.heap.size, 0, none⟩ = false := by rw [k0]; go_simp
      have k1' : wr.frozen? ⟨w.heap.size, 1, none⟩ = false := by rw [k1]; go_simp
      have hB : Below w.heap.size w wr := ((Below.refl _ _).alloc (Nat.le_refl _) _).trans (hbel.mono (by omega))
      replace hB := Lib.hid hB
      replace hrow := Lib.hid hrow
      replace hpc := Lib.hid hpc
      replace inv := Lib.hid inv
      clear hown hbel g0 g1 k0 k1
      go_wp2_with fail
      have hB' := (hB.out.setCell (p := ⟨w.heap.size, 0, none⟩) (Nat.le_refl _) (.bool neg)).setCell (p := ⟨w.heap.size, 1, none⟩) (Nat.le_refl _) (.slice p ds.length cap)
      refine bodyPost_ret (v := .agg #[.bool neg, .slice p ds.length cap]) (by simp [results, Tryz.results30, go_sem, g0', g1']) rfl ⟨_, rfl, ⟨neg, p, ds.length, cap, ds, rfl, drow_store (drow_store hrow.out (fun b off h => by have := hbase.out b off h; simp; omega) _) (fun b off h => by have := hbase.out b off h; simp; omega) _, hlc, hpc.out, hlen, ?_, ?_, inv.out.last hm⟩, hB'⟩
      · have e := inv.out.eq
        rw [hm] at e
        simp at e
        rw [← e, ← hneg.out]
        unfold sgB
        by_cases hn : n < 0 <;> simp [hn]
      · intro he
        have := inv.out.none he
        rw [← hneg.out]
        simp
        omega
    · have h1 : (m != 0) = true := by simpa using hm
      have hshort := inv.short ⟨n0, n1⟩ hm
      obtain ⟨d, hd⟩ : ∃ d, d = (if m < 0 then -m else m) % 10000 := ⟨_, rfl⟩
      obtain ⟨m', hm'⟩ : ∃ m', m' = m.tdiv 10000 := ⟨_, rfl⟩
      have inv' := Lib.hid (inv.next hm d hd m' hm')
      obtain ⟨g, c, w', hrun, hown', hbel'⟩ := append_digit wr (w.heap.size + 2) v ds d hown (by omega) (by omega)
      have x0 : w'.cell? ⟨w.heap.size + 1, 0, none⟩ = some (.bool neg) := (hbel'.cell (p := ⟨w.heap.size + 1, 0, none⟩) (by simp)).trans c0
      have x1 : w'.cell? ⟨w.heap.size + 1, 1, none⟩ = some v := (hbel'.cell (p := ⟨w.heap.size + 1, 1, none⟩) (by simp)).trans c1
      have y1 : w'.frozen? ⟨w.heap.size + 1, 1, none⟩ = false := (hbel'.frozen (p := ⟨w.heap.size + 1, 1, none⟩) (by simp)).trans f1
      have hz' := hbel'.size
      have hbm : -9223372036854775808 ≤ m' ∧ m' ≤ 9223372036854775807 ∧ m'.natAbs < m.natAbs := by
        rw [hm']
        by_cases hneg : m < 0
        · rw [show m = -(-m) from by omega, Int.neg_tdiv, Int.tdiv_eq_ediv_of_nonneg (by omega)]; omega
        · rw [Int.tdiv_eq_ediv_of_nonneg (by omega)]; omega
      have hb3 := Lib.hid (hbel.trans (hbel'.mono (by omega)))
      replace hrun := Lib.hid hrun
      replace hown' := Lib.hid hown'
      replace hm' := Lib.hid hm'
      replace hd := Lib.hid hd
      replace hm := Lib.hid hm
      clear hown hbel hbel' inv
      go_upto_if 13 with (fail)
      go_cut [4] (fun t wc => t = .int .i64 d ∧ wc = wr)
      case first =>
        clear c0 c1 f1 x0 x1 y1
        by_cases hneg : m < 0
        · have e : m.tmod 10000 = -d := by
            rw [hd.out, if_pos hneg]
            have : m = -(-m) := by omega
            rw [this, Int.neg_tmod, Int.tmod_eq_emod_of_nonneg (by omega)]
            omega
          have d0 : 0 ≤ d ∧ d ≤ 9999 := by rw [hd.out]; omega
          rw [e]
          by_cases hd0 : d = 0
          · subst hd0
            go_wp2_with fail
            go_meet
            exact ⟨rfl, rfl⟩
          · have hlt : -d < 0 := by omega
            have e3 : -(-d) = d := by omega
            go_wp2_with fail
            go_meet
            exact ⟨rfl, rfl⟩
        · have e : m.tmod 10000 = d := by
            rw [hd.out, if_neg hneg, Int.tmod_eq_emod_of_nonneg (by omega)]
          have d0 : 0 ≤ d ∧ d ≤ 9999 := by rw [hd.out]; omega
          rw [e]
          go_wp2_with fail
          go_meet
          exact ⟨rfl, rfl⟩
      case rest =>
        obtain ⟨rfl, rfl⟩ := hcut
        go_wp2_with (at_builtin; refine wpList_app rfl _ _ _ _ rfl _ _ _ _ rfl rfl hrun.out ?_)
        rw [← hm'.out]
        exact ⟨⟨m', ds ++ [d], _, rfl, ⟨hbm.1, hbm.2.1⟩, ⟨inv'.out, by simp; omega⟩, by go_simp, by go_simp, by go_simp, by simp [World.setCell]; omega, ownsRow_setCell_below hown'.out (by simp) _, hb3.out.setCell (by simp) _⟩, by simp only [intOf]; exact hbm.2.2⟩

/-- a block that holds a Big's two cells -/
def Box (w : World) (B : Nat) : Prop := ∃ (x : Bool) (q : Option Addr) (l c : Nat), w.heap[B]? = some (.cells #[.bool x, .slice q l c] 79 (0, 0))
theorem Box.made (w : World) (x : Bool) (q : Option Addr) (l c : Nat) : Box (w.alloc (.cells #[.bool x, .slice q l c] 79)) w.heap.size := ⟨x, q, l, c, heap_alloc_new w _⟩
theorem Box.kept {w w' : World} {B n : Nat} (h : Box w B) (hb : Below n w w') (hB : B < n) : Box w' B := by
  obtain ⟨x, q, l, c, e⟩ := h
  exact ⟨x, q, l, c, (hb.block B hB).trans e⟩
theorem Box.cells {w : World} {B : Nat} (h : Box w B) : ∃ (x : Bool) (q : Option Addr) (l c : Nat), w.cell? ⟨B, 0, none⟩ = some (.bool x) ∧ w.cell? ⟨B, 1, none⟩ = some (.slice q l c) ∧ w.frozen? ⟨B, 0, none⟩ = false ∧ w.frozen? ⟨B, 1, none⟩ = false := by
  obtain ⟨x, q, l, c, e⟩ := h
  refine ⟨x, q, l, c, ?_, ?_, ?_, ?_⟩
  · rw [cell_of_row w B 0 _ 79 (0, 0) e]; rfl
  · rw [cell_of_row w B 1 _ 79 (0, 0) e]; rfl
  · simp [World.frozen?, e]
  · simp [World.frozen?, e]
theorem Box.ne {w : World} {B : Nat} (h : Box w B) {p : Option Addr} {len : Nat} {ds : List Int} (hr : DRow w p len ds) (hl : len ≠ 0) : ∀ b off, p = some ⟨b, off, none⟩ → b ≠ B := by
  intro b off hp hb
  obtain ⟨x, q, l, c, e⟩ := h
  obtain ⟨_, _, h4⟩ := hr
  obtain ⟨b', off', e', _, hc⟩ := h4.resolve_left hl
  rw [hp] at e'
  simp at e'
  obtain ⟨rfl, rfl⟩ := e'
  subst hb
  have h1 := hc 0 (by omega)
  rw [Nat.add_zero, cell_of_row w b off _ 79 (0, 0) e] at h1
  match off, h1 with
  | 0, h1 => simp at h1
  | 1, h1 => simp at h1
  | k + 2, h1 => simp at h1
/-- a Big's two cells are stored; rows of digits stay -/
theorem Box.stored {w : World} {B : Nat} (h : Box w B) {p : Option Addr} {len : Nat} {ds : List Int} (hr : DRow w p len ds) (u u' : Value) : DRow ((w.setCell ⟨B, 0, none⟩ u).setCell ⟨B, 1, none⟩ u') p len ds := by
  by_cases hl : len = 0
  · obtain ⟨h1, h2, _⟩ := hr
    exact ⟨h1, h2, .inl hl⟩
  · exact drow_store (drow_store hr (h.ne hr hl) u) (h.ne hr hl) u'

theorem RetB.more {w : World} {L L' : Nat} {N N' : Int} {e : Ending} {w' : World} (h : RetB w L N e w') (hL : L ≤ L') (hN : N = N') : RetB w L' N' e w' := by
  obtain ⟨v, he, ⟨neg, p, len, cap, ds, h1, h2, h3, h4, h5, h6, h7⟩, hb⟩ := h
  exact ⟨v, he, ⟨neg, p, len, cap, ds, h1, h2, h3, h4, Nat.le_trans h5 hL, h6.trans hN, h7⟩, hb⟩

set_option maxHeartbeats 1000000 in
theorem turned_any (v : Value) (L : Nat) (N : Int) (w : World) (h : IsB w v L N) (hL : L ≤ 1000000) :
    Calls Tryz.prog 78 #[v] w (RetB w L (-N)) := by
  obtain ⟨neg, p, len, cap, ds, rfl, hrow, hlc, hpc, hlen, hN, hz⟩ := h
  clear hz
  subst hN
  replace hrow := Lib.hid hrow
  replace hpc := Lib.hid hpc
  go_enter Tryz.func78, Tryz.ntmps78
  go_wp2_with fail
  refine (trim_any (!neg) p len cap ds _ (hrow.out.kept (((Below.refl _ _).alloc (Nat.le_refl _) _).alloc (by simp) _)) hlc hpc.out (by omega)).mono ?_
  rintro e w1 ⟨v, rfl, hv, hb1⟩
  have hbox : Box w1 (w.heap.size + 1) := by
    have := Box.made (w.alloc (Obj.cells #[Value.bool neg, Value.slice p len cap] 79)) false none 0 0
    simp at this
    exact this.kept hb1 (by simp)
  obtain ⟨x, q, l, c, g0, g1, k0, k1⟩ := hbox.cells
  obtain ⟨neg', p', len', cap', ds', rfl, hrow', hlc', hpc', hlen', hN', hz'⟩ := hv
  replace hrow' := Lib.hid hrow'
  replace hpc' := Lib.hid hpc'
  replace hN' := Lib.hid hN'
  replace hz' := Lib.hid hz'
  replace hb1 := Lib.hid hb1
  replace hbox := Lib.hid hbox
  go_wp2_with fail
  refine bodyPost_ret (v := .agg #[.bool neg', .slice p' len' cap']) (by simp [results, Tryz.results78, go_sem, g0, g1]) rfl ⟨_, rfl, ⟨neg', p', len', cap', ds', rfl, hbox.out.stored hrow'.out _ _, hlc', hpc'.out, by omega, ?_, hz'.out⟩, ?_⟩
  · rw [hN'.out]; unfold sgB; cases neg <;> simp
  · exact (((((Below.refl _ _).alloc (Nat.le_refl _) _).alloc (by simp) _).trans (hb1.out.mono (by simp; omega))).setCell (by simp) _).setCell (by simp) _
end Go.Proofs.YthocnlalahknjaaGreat
namespace Go.Proofs.YthocnlalahknjaaGreat
open Go.RowKit
set_option linter.unusedVariables false

/-- which is greater -/
def cmp3 (a b : Int) : Int := if b < a then 1 else if a < b then -1 else 0

/-- the cells of two Bigs, each in a block of its own -/
def TwoB (w : World) (A B : Nat) (na nb : Bool) (pa pb : Option Addr) (la lb ca cb : Nat) : Prop :=
  w.cell? ⟨A, 0, none⟩ = some (.bool na) ∧ w.cell? ⟨A, 1, none⟩ = some (.slice pa la ca) ∧ w.cell? ⟨B, 0, none⟩ = some (.bool nb) ∧ w.cell? ⟨B, 1, none⟩ = some (.slice pb lb cb)
theorem TwoB.kept {w w' : World} {A B n : Nat} {na nb : Bool} {pa pb : Option Addr} {la lb ca cb : Nat} (h : TwoB w A B na nb pa pb la lb ca cb) (hb : Below n w w') (hA : A < n) (hB : B < n) : TwoB w' A B na nb pa pb la lb ca cb :=
  ⟨(hb.cell (p := ⟨A, 0, none⟩) hA).trans h.1, (hb.cell (p := ⟨A, 1, none⟩) hA).trans h.2.1, (hb.cell (p := ⟨B, 0, none⟩) hB).trans h.2.2.1, (hb.cell (p := ⟨B, 1, none⟩) hB).trans h.2.2.2⟩

/-- behind a call's beginning: its two Bigs lie in the first two blocks of its own; what was there is as it was -/
structure Hold (w W : World) (na nb : Bool) (pa pb : Option Addr) (la lb ca cb : Nat) (da db : List Int) : Prop where
  two : TwoB W w.heap.size (w.heap.size + 1) na nb pa pb la lb ca cb
  size : w.heap.size + 1 < W.heap.size
  bel : Below w.heap.size w W
  ra : DRow w pa la da
  rb : DRow w pb lb db
section
variable {w W W' : World} {na nb : Bool} {pa pb : Option Addr} {la lb ca cb : Nat} {da db : List Int}
theorem Hold.a (h : Hold w W na nb pa pb la lb ca cb da db) : DRow W pa la da := h.ra.kept h.bel
theorem Hold.b (h : Hold w W na nb pa pb la lb ca cb da db) : DRow W pb lb db := h.rb.kept h.bel
theorem Hold.keptTo {n : Nat} (h : Hold w W na nb pa pb la lb ca cb da db) (hb : Below n W W') (hn : w.heap.size + 2 ≤ n) : Hold w W' na nb pa pb la lb ca cb da db :=
  ⟨h.two.kept hb (by omega) (by omega), Nat.lt_of_lt_of_le h.size hb.size, h.bel.trans (hb.mono (by omega)), h.ra, h.rb⟩
theorem Hold.kept (h : Hold w W na nb pa pb la lb ca cb da db) (hb : Below W.heap.size W W') : Hold w W' na nb pa pb la lb ca cb da db := h.keptTo hb h.size
theorem Hold.drew (h : Hold w W na nb pa pb la lb ca cb da db) : Hold w W.drew na nb pa pb la lb ca cb da db := ⟨h.two, h.size, h.bel.drew, h.ra, h.rb⟩
theorem Hold.made (ha : DRow w pa la da) (hb : DRow w pb lb db) : Hold w ((w.alloc (Obj.cells #[Value.bool na, Value.slice pa la ca] 79)).alloc (Obj.cells #[Value.bool nb, Value.slice pb lb cb] 79)) na nb pa pb la lb ca cb da db := by
  have hB : Below w.heap.size w ((w.alloc (Obj.cells #[Value.bool na, Value.slice pa la ca] 79)).alloc (Obj.cells #[Value.bool nb, Value.slice pb lb cb] 79)) := ((Below.refl _ _).alloc (Nat.le_refl _) _).alloc (by simp) _
  exact ⟨⟨by go_simp, by go_simp, by go_simp, by go_simp⟩, by simp, hB, ha, hb⟩
theorem digA (h : Hold w W na nb pa pb la lb ca cb da db) (j : Nat) (hj : j ≤ 1000000) :
    Calls Tryz.prog 56 #[.agg #[.bool na, .slice pa la ca], .int .i64 j] W fun e W' => e = .returned (.int .i64 (dg da j)) ∧ Hold w W' na nb pa pb la lb ca cb da db ∧ Below W.heap.size W W' :=
  (digit_any na pa la ca j da W h.a (by omega)).mono fun e W' ⟨he, hb⟩ => ⟨he, h.kept hb, hb⟩
theorem digB (h : Hold w W na nb pa pb la lb ca cb da db) (j : Nat) (hj : j ≤ 1000000) :
    Calls Tryz.prog 56 #[.agg #[.bool nb, .slice pb lb cb], .int .i64 j] W fun e W' => e = .returned (.int .i64 (dg db j)) ∧ Hold w W' na nb pa pb la lb ca cb da db ∧ Below W.heap.size W W' :=
  (digit_any nb pb lb cb j db W h.b (by omega)).mono fun e W' ⟨he, hb⟩ => ⟨he, h.kept hb, hb⟩
end

set_option maxRecDepth 100000 in
set_option maxHeartbeats 2000000 in
theorem larger_any (na nb : Bool) (pa pb : Option Addr) (la lb ca cb : Nat) (da db : List Int) (w : World) (ha : DRow w pa la da) (hb : DRow w pb lb db) (hla : la ≤ 1000000) (hlb : lb ≤ 1000000) :
    Calls Tryz.prog 58 #[.agg #[.bool na, .slice pa la ca], .agg #[.bool nb, .slice pb lb cb]] w fun e w' => e = .returned (.int .i64 (cmp3 (val da) (val db))) ∧ Below w.heap.size w w' := by
  have fa := Lib.hid ha.2.1
  have fb := Lib.hid hb.2.1
  have la' := ha.1
  have lb' := hb.1
  obtain ⟨M, hM⟩ : ∃ M, M = max la lb := ⟨_, rfl⟩
  have ea : val da = dv (dg da) M := (val_ext (by rw [la']; omega)).symm
  have eb : val db = dv (dg db) M := (val_ext (by rw [lb']; omega)).symm
  have hH0 := Lib.hid (Hold.made (na := na) (nb := nb) (ca := ca) (cb := cb) ha hb)
  clear la' lb' ha hb
  replace ea := Lib.hid ea
  replace eb := Lib.hid eb
  have hM1 : M ≤ 1000000 := by omega
  replace hM := Lib.hid hM
  go_enter Tryz.func58, Tryz.ntmps58
  go_upto_region 1 with (fail)
  go_cut [5] (fun t wc => t = .int .i64 ((M : Int) - 1) ∧ wc = ((w.alloc (Obj.cells #[Value.bool na, Value.slice pa la ca] 79)).alloc (Obj.cells #[Value.bool nb, Value.slice pb lb cb] 79)))
  case first =>
    by_cases hlt : la < lb
    · go_wp2_with fail
      go_meet
      exact ⟨by rw [hM.out, Nat.max_eq_right (Nat.le_of_lt hlt)], rfl⟩
    · go_wp2_with fail
      go_meet
      exact ⟨by rw [hM.out, Nat.max_eq_left (by omega)], rfl⟩
  case rest =>
    obtain ⟨rfl, rfl⟩ := hcut
    go_wp2_with fail
    go_loopw [5] (fun t wr => ∃ k : Nat, k ≤ M ∧ t = .int .i64 ((k : Int) - 1) ∧ (∀ i, k ≤ i → i < M → dg da i = dg db i) ∧ Hold w wr na nb pa pb la lb ca cb da db)
      (fun t _ => (intOf t + 1).toNat)
    case atStart => exact ⟨M, Nat.le_refl _, rfl, fun i h1 h2 => by omega, hH0.out⟩
    case round =>
      obtain ⟨k, hk, rfl, heq, hH⟩ := hrel
      cases k with
      | zero =>
        have hfin : cmp3 (val da) (val db) = 0 := by
          have h1 := dv_agree (f := dg da) (g := dg db) (k := 0) (n := M) (Nat.zero_le _) (fun i a b => heq i a b)
          rw [ea.out, eb.out]
          simp only [dv] at h1
          unfold cmp3
          rw [if_neg (by omega), if_neg (by omega)]
        replace hfin := Lib.hid hfin
        replace hH := Lib.hid hH
        clear heq
        go_wp2_with fail
        go_ret
        exact ⟨by rw [hfin.out]; rfl, hH.out.bel⟩
      | succ j =>
        have ej : ((j + 1 : Nat) : Int) - 1 = (j : Int) := by omega
        rw [ej]
        clear ej
        have hc := hH.two
        replace heq := Lib.hid heq
        replace hH := Lib.hid hH
        go_upto_region 4 with (fail)
        go_region_held3 (fun w' => w'.cell? ⟨w.heap.size, 0, none⟩ = some (.bool na) ∧ w'.cell? ⟨w.heap.size, 1, none⟩ = some (.slice pa la ca) ∧ w'.cell? ⟨w.heap.size + 1, 0, none⟩ = some (.bool nb) ∧ w'.cell? ⟨w.heap.size + 1, 1, none⟩ = some (.slice pb lb cb))
          (first | exact hH.out.two | exact hH1.out.two | exact hH2.out.two)
          (first
            | (go_at_call 56; (with_reducible refine (digA (w := w) (nb := nb) (pb := pb) (lb := lb) (cb := cb) (db := db) (da := da) ?_ j ?_).mono ?_); exact hH.out.drew; omega; rintro e w1 ⟨rfl, hH1, -⟩; replace hH1 := Lib.hid hH1)
            | (go_at_call 56; (with_reducible refine (digB (w := w) (na := na) (pa := pa) (la := la) (ca := ca) (da := da) (db := db) ?_ j ?_).mono ?_); exact hH1.out; omega; rintro e w2 ⟨rfl, hH2, -⟩; replace hH2 := Lib.hid hH2))
        clear hc
        by_cases hgt : dg db j < dg da j
        · have hfin : cmp3 (val da) (val db) = 1 := by
            have h1 := dv_first fa.out fb.out (show j < M from hk) (fun i a b => heq.out i a b) hgt
            rw [ea.out, eb.out]
            unfold cmp3
            rw [if_pos h1]
          replace hfin := Lib.hid hfin
          go_wp2_with fail
          go_ret
          exact ⟨by rw [hfin.out]; rfl, hH2.out.bel⟩
        · go_upto_region 6 with (fail)
          go_region_held3 (fun w' => w'.cell? ⟨w.heap.size, 0, none⟩ = some (.bool na) ∧ w'.cell? ⟨w.heap.size, 1, none⟩ = some (.slice pa la ca) ∧ w'.cell? ⟨w.heap.size + 1, 0, none⟩ = some (.bool nb) ∧ w'.cell? ⟨w.heap.size + 1, 1, none⟩ = some (.slice pb lb cb))
            (first | exact hH2.out.two | exact hH3.out.two | exact hH4.out.two)
            (first
              | (go_at_call 56; (with_reducible refine (digA (w := w) (nb := nb) (pb := pb) (lb := lb) (cb := cb) (db := db) (da := da) ?_ j ?_).mono ?_); exact hH2.out.drew; omega; rintro e w3 ⟨rfl, hH3, -⟩; replace hH3 := Lib.hid hH3)
              | (go_at_call 56; (with_reducible refine (digB (w := w) (na := na) (pa := pa) (la := la) (ca := ca) (da := da) (db := db) ?_ j ?_).mono ?_); exact hH3.out; omega; rintro e w4 ⟨rfl, hH4, -⟩; replace hH4 := Lib.hid hH4))
          by_cases hlt : dg da j < dg db j
          · have hfin : cmp3 (val da) (val db) = -1 := by
              have h1 := dv_first fb.out fa.out (show j < M from hk) (fun i a b => (heq.out i a b).symm) hlt
              rw [ea.out, eb.out]
              unfold cmp3
              rw [if_neg (by omega), if_pos h1]
            replace hfin := Lib.hid hfin
            go_wp2_with fail
            go_ret
            exact ⟨by rw [hfin.out]; rfl, hH4.out.bel⟩
          · have he : dg da j = dg db j := by omega
            replace he := Lib.hid he
            go_wp2_with fail
            refine ⟨⟨j, by omega, rfl, fun i h1 h2 => ?_, hH4.out⟩, by simp [intOf]⟩
            by_cases hij : i = j
            · rw [hij]; exact he.out
            · exact heq.out i (by omega) h2
end Go.Proofs.YthocnlalahknjaaGreat
namespace Go.Proofs.YthocnlalahknjaaGreat
open Go.RowKit
set_option linter.unusedVariables false

/-- a sum, digit by digit, with a carry -/
structure AddInv (f g : Nat → Int) (i : Nat) (c : Int) (os : List Int) : Prop where
  len : os.length = i
  digs : Digs (dg os)
  c0 : 0 ≤ c
  c1 : c ≤ 1
  eq : val os + c * pw i = dv f i + dv g i
theorem AddInv.first (f g : Nat → Int) : AddInv f g 0 0 [] := ⟨rfl, digs_nil, by omega, by omega, by rw [val_nil]; simp [dv]⟩
theorem AddInv.next {f g : Nat → Int} {i : Nat} {c : Int} {os : List Int} (h : AddInv f g i c os) (hf : Digs f) (hg : Digs g) : AddInv f g (i + 1) ((c + f i + g i) / 10000) (os ++ [(c + f i + g i) % 10000]) := by
  have a := hf i
  have b := hg i
  have c0 := h.c0
  have c1 := h.c1
  refine ⟨by rw [List.length_append, h.len]; rfl, digs_snoc h.digs (by omega) (by omega), by omega, by omega, ?_⟩
  rw [val_snoc, h.len, dv, dv, pw_succ]
  have e := h.eq
  have e1 : (c + f i + g i) * pw i = c * pw i + f i * pw i + g i * pw i := by rw [Int.add_mul, Int.add_mul]
  have e2 : (c + f i + g i) * pw i = (c + f i + g i) % 10000 * pw i + (c + f i + g i) / 10000 * (10000 * pw i) := by
    rw [Int.mul_left_comm, ← Int.mul_assoc, ← Int.add_mul, Int.emod_add_mul_ediv]
  omega
theorem AddInv.last {da db : List Int} {M : Nat} {c : Int} {os : List Int} (h : AddInv (dg da) (dg db) (M + 1) c os) (ha : Digs (dg da)) (hb : Digs (dg db)) (la : da.length ≤ M) (lb : db.length ≤ M) : val os = val da + val db := by
  have e := h.eq
  rw [val_ext (by omega), val_ext (by omega), pw_succ] at e
  have a1 := (dv_bd ha M).2
  have b1 := (dv_bd hb M).2
  rw [val_ext la] at a1
  rw [val_ext lb] at b1
  have o := (val_bd h.digs).1
  have c0 := h.c0
  have c1 := h.c1
  have p := pw_pos M
  rcases (by omega : c = 0 ∨ c = 1) with hc | hc
  · rw [hc] at e; omega
  · rw [hc] at e; omega

/-- what is made: a Big in block b, its row behind it; the result's is block r -/
structure Outs (W : World) (b r : Nat) (neg : Bool) (v : Value) (os : List Int) : Prop where
  c0 : W.cell? ⟨b, 0, none⟩ = some (.bool neg)
  c1 : W.cell? ⟨b, 1, none⟩ = some v
  f1 : W.frozen? ⟨b, 1, none⟩ = false
  size : b < W.heap.size
  own : W.ownsRow (b + 1) 3 1 v os.length (os.map (.int .i64))
  box : Box W r
  lt : r < b
theorem grown_of_below {W W' : World} (hb : Below W.heap.size W W') : W.grownBy W' none := ⟨hb.os, hb.tape, hb.output, hb.size, fun k hk _ => hb.block k hk⟩
theorem Outs.kept {W W' : World} {b r : Nat} {neg : Bool} {v : Value} {os : List Int} (h : Outs W b r neg v os) (hb : Below W.heap.size W W') : Outs W' b r neg v os := by
  have s := h.size
  refine ⟨(hb.cell (p := ⟨b, 0, none⟩) s).trans h.c0, (hb.cell (p := ⟨b, 1, none⟩) s).trans h.c1, (hb.frozen (p := ⟨b, 1, none⟩) s).trans h.f1, Nat.lt_of_lt_of_le s hb.size, ?_, h.box.kept hb (by have := h.lt; omega), h.lt⟩
  refine h.own.kept (grown_of_below hb) ?_
  cases v.ownBlock with
  | none => exact .inl rfl
  | some k => exact .inr (by simp)
theorem Outs.drew {W : World} {b r : Nat} {neg : Bool} {v : Value} {os : List Int} (h : Outs W b r neg v os) : Outs W.drew b r neg v os := ⟨h.c0, h.c1, h.f1, h.size, h.own, h.box, h.lt⟩
theorem Outs.made (W : World) (r : Nat) (neg : Bool) (hr : Box W r) (hlt : r < W.heap.size) : Outs (W.alloc (.cells #[.bool neg, .slice none 0 0] 79)) W.heap.size r neg (.slice none 0 0) [] :=
  ⟨by go_simp, by go_simp, by go_simp, by simp, World.ownsRow_nil _ _ _ _, hr.kept ((Below.refl _ _).alloc (Nat.le_refl _) _) hlt, hlt⟩
/-- one digit more -/
theorem Outs.more {W : World} {b r : Nat} {neg : Bool} {v : Value} {os : List Int} (h : Outs W b r neg v os) (d : Int) (hl : os.length ≤ 1000000) :
    ∃ g c w', (Builtin.append_ #[35, 35] 35 #[v, .slice (some ⟨W.heap.size, 0, none⟩) 1 1]).run Tryz.prog (W.alloc (.cells #[.int .i64 d] 3)) = .ok (.slice (some ⟨g, 0, none⟩) (os.length + 1) c) w' ∧
      w'.cell? ⟨b, 1, none⟩ = some v ∧ w'.frozen? ⟨b, 1, none⟩ = false ∧
      Outs (w'.setCell ⟨b, 1, none⟩ (.slice (some ⟨g, 0, none⟩) (os.length + 1) c)) b r neg (.slice (some ⟨g, 0, none⟩) (os.length + 1) c) (os ++ [d]) ∧
      Below b W (w'.setCell ⟨b, 1, none⟩ (.slice (some ⟨g, 0, none⟩) (os.length + 1) c)) := by
  have s := h.size
  obtain ⟨g, c, w', hrun, hown', hb⟩ := append_digit W (b + 1) v os d h.own s hl
  have x0 := (hb.cell (p := ⟨b, 0, none⟩) (by simp)).trans h.c0
  have x1 := (hb.cell (p := ⟨b, 1, none⟩) (by simp)).trans h.c1
  have y1 := (hb.frozen (p := ⟨b, 1, none⟩) (by simp)).trans h.f1
  have hb3 : Below b W (w'.setCell ⟨b, 1, none⟩ (.slice (some ⟨g, 0, none⟩) (os.length + 1) c)) := Below.setCell (B := b) (p := ⟨b, 1, none⟩) (hb.mono (Nat.le_succ b)) (Nat.le_refl b) _
  exact ⟨g, c, w', hrun, x1, y1, ⟨by go_simp, by go_simp, by go_simp, by have := hb.size; simp [World.setCell]; omega, ownsRow_setCell_below hown' (by simp) _, h.box.kept hb3 h.lt, h.lt⟩, hb3⟩

set_option maxRecDepth 100000 in
set_option maxHeartbeats 4000000 in
theorem add_same (n : Bool) (pa pb : Option Addr) (la lb ca cb M : Nat) (da db : List Int) (w : World) (ha : DRow w pa la da) (hb : DRow w pb lb db) (hla : la ≤ 100000) (hlb : lb ≤ 100000)
    (hM : la < lb ∧ lb = M ∨ ¬ la < lb ∧ la = M) :
    Calls Tryz.prog 29 #[.agg #[.bool n, .slice pa la ca], .agg #[.bool n, .slice pb lb cb]] w (RetB w (M + 1) (sgB n (val da + val db))) := by
  have fa := Lib.hid ha.2.1
  have fb := Lib.hid hb.2.1
  have la' := Lib.hid ha.1
  have lb' := Lib.hid hb.1
  have hH0 := Lib.hid (Hold.made (na := n) (nb := n) (ca := ca) (cb := cb) ha hb)
  clear ha hb
  have hMa : la ≤ M := by omega
  have hMb : lb ≤ M := by omega
  have hMl : M ≤ 100000 := by omega
  rcases hM with ⟨hlt, hM⟩ | ⟨hlt, hM⟩
  all_goals
    replace hM := Lib.hid hM

    go_enter Tryz.func29, Tryz.ntmps29
    go_wp2_with fail
    go_loopw [6, 7] (fun c i wr => ∃ (k : Nat) (cv : Int) (os : List Int) (v : Value), k ≤ M + 1 ∧ c = .int .i64 cv ∧ i = .int .i64 k ∧ AddInv (dg da) (dg db) k cv os ∧ Hold w wr n n pa pb la lb ca cb da db ∧ Outs wr (w.heap.size + 1 + 1 + 1) (w.heap.size + 1 + 1) n v os)
      (fun _ i _ => M + 1 - (intOf i).toNat)
    case atStart =>
      refine ⟨0, 0, [], .slice none 0 0, by omega, rfl, rfl, AddInv.first _ _, (hH0.out.keptTo (n := w.heap.size + 1 + 1) (((Below.refl _ _).alloc (by simp) _).alloc (by simp) _) (by omega)), ?_⟩
      have hx := Outs.made (((w.alloc (Obj.cells #[Value.bool n, Value.slice pa la ca] 79)).alloc (Obj.cells #[Value.bool n, Value.slice pb lb cb] 79)).alloc (Obj.cells #[Value.bool false, Value.slice none 0 0] 79)) (w.heap.size + 1 + 1) n (by
        have := Box.made ((w.alloc (Obj.cells #[Value.bool n, Value.slice pa la ca] 79)).alloc (Obj.cells #[Value.bool n, Value.slice pb lb cb] 79)) false none 0 0
        simpa using this) (by simp)
      simpa using hx
    case round =>
      obtain ⟨k, cv, os, v, hk, rfl, rfl, inv, hH, hO⟩ := hrel
      have kl := inv.len
      by_cases hlast : k = M + 1
      · subst hlast
        have hval := Lib.hid (inv.last fa.out fb.out (by rw [la'.out]; exact hMa) (by rw [lb'.out]; exact hMb))
        obtain ⟨t0, t1, t2, t3⟩ := hH.two
        obtain ⟨p, cap, rfl, hlc, hpc, hrow, hbase⟩ := own_drow hO.own inv.digs
        have q0 := hO.c0
        have q1 := hO.c1
        replace hrow := Lib.hid hrow
        replace hpc := Lib.hid hpc
        replace hbase := Lib.hid hbase
        replace inv := Lib.hid inv
        replace hH := Lib.hid hH
        replace hO := Lib.hid hO
        rw [kl] at hlc
        rw [kl] at q1
        rw [kl] at hrow
        clear kl
        first
          | have hklt : ¬ ((M + 1 : Nat) : Int) < (lb : Int) + 1 := by have := hM.out; omega
          | have hklt : ¬ ((M + 1 : Nat) : Int) < (la : Int) + 1 := by have := hM.out; omega
        go_wp2_with fail
        refine (trim_any n p (M + 1) cap os _ hrow.out hlc hpc.out (by omega)).mono ?_
        rintro e w1 ⟨v, rfl, hv, hb1⟩
        have hbox : Box w1 (w.heap.size + 1 + 1) := hO.out.box.kept hb1 (by have := hO.out.size; omega)
        obtain ⟨x, q, l, c, g0, g1, k0, k1⟩ := hbox.cells
        obtain ⟨neg', p', len', cap', ds', rfl, hrow', hlc', hpc', hlen', hN', hz'⟩ := hv
        have hB := Lib.hid (hH.out.bel.trans (hb1.mono hH.out.bel.size))
        replace hrow' := Lib.hid hrow'
        replace hpc' := Lib.hid hpc'
        replace hN' := Lib.hid hN'
        replace hz' := Lib.hid hz'
        replace hbox := Lib.hid hbox
        clear t0 t1 t2 t3 q0 q1 hb1
        go_wp2_with fail
        refine bodyPost_ret (v := .agg #[.bool neg', .slice p' len' cap']) (by simp [results, Tryz.results29, go_sem, g0, g1]) rfl ⟨_, rfl, ⟨neg', p', len', cap', ds', rfl, hbox.out.stored hrow'.out _ _, hlc', hpc'.out, hlen', ?_, hz'.out⟩, ?_⟩
        · rw [hN'.out, hval.out]
        · exact (hB.out.setCell (by simp; omega) _).setCell (by simp; omega) _
      · have t := hH.two
        obtain ⟨t0, t1, t2, t3⟩ := t
        have d0 := fa.out k
        have d1 := fb.out k
        have cc0 := inv.c0
        have cc1 := inv.c1
        have inv' := Lib.hid (inv.next fa.out fb.out)
        replace inv := Lib.hid inv
        replace hH := Lib.hid hH
        replace hO := Lib.hid hO
        generalize hx : dg da k = x at *
        generalize hy : dg db k = y at *
        replace hx := Lib.hid hx
        replace hy := Lib.hid hy
        replace kl := Lib.hid kl
        first
          | have hklt : (k : Int) < (lb : Int) + 1 := by have := hM.out; omega
          | have hklt : (k : Int) < (la : Int) + 1 := by have := hM.out; omega
        have e1 : IntKind.i64.wrap (cv + x) = cv + x := by rw [IntKind.wrap_i64]; omega
        have e2 : IntKind.i64.wrap (cv + x + y) = cv + x + y := by rw [IntKind.wrap_i64]; omega
        have hkl : k ≤ 1000000 := by omega
        go_upto_region 7 with (fail)
        go_region_held3 (fun w' => w'.cell? ⟨w.heap.size, 0, none⟩ = some (.bool n) ∧ w'.cell? ⟨w.heap.size, 1, none⟩ = some (.slice pa la ca) ∧ w'.cell? ⟨w.heap.size + 1, 0, none⟩ = some (.bool n) ∧ w'.cell? ⟨w.heap.size + 1, 1, none⟩ = some (.slice pb lb cb))
          (first | exact hH.out.two | exact hH1.out.two | exact hH2.out.two)
          (first
            | (go_at_call 56; (with_reducible refine (digA (w := w) (nb := n) (pb := pb) (lb := lb) (cb := cb) (db := db) (da := da) ?_ k ?_).mono ?_); exact hH.out.drew; exact hkl; rintro e w1 ⟨rfl, hH1, hb1⟩; rw [hx.out]; replace hH1 := Lib.hid hH1; have hO1 := Lib.hid (hO.out.drew.kept hb1); clear hb1)
            | (go_at_call 56; (with_reducible refine (digB (w := w) (na := n) (pa := pa) (la := la) (ca := ca) (da := da) (db := db) ?_ k ?_).mono ?_); exact hH1.out; exact hkl; rintro e w2 ⟨rfl, hH2, hb2⟩; rw [hy.out]; replace hH2 := Lib.hid hH2; have hO2 := Lib.hid (hO1.out.kept hb2); clear hb2))
        clear t0 t1 t2 t3 e1 e2 hH hH1 hO hO1
        obtain ⟨g, c, w', hrun, z1, z2, hO3, hb3⟩ := hO2.out.more ((cv + x + y) % 10000) (by rw [kl.out]; omega)
        have q1 := hO2.out.c1
        have hH3 := Lib.hid (hH2.out.keptTo hb3 (by omega))
        replace hO3 := Lib.hid hO3
        replace hb3 := Lib.hid hb3
        replace hrun := Lib.hid hrun
        go_wp2_with (at_builtin; refine wpList_app rfl _ _ _ _ rfl _ _ _ _ rfl rfl hrun.out ?_)
        go_roundw
        case rel => exact ⟨k + 1, (cv + x + y) / 10000, _, _, by omega, rfl, by go_num, inv'.out, hH3.out, hO3.out⟩
        case measure => simp [intOf]; omega
end Go.Proofs.YthocnlalahknjaaGreat
namespace Go.Proofs.YthocnlalahknjaaGreat
open Go.RowKit
set_option linter.unusedVariables false

/-- a difference, digit by digit, with what is borrowed -/
structure SubInv (f g : Nat → Int) (i : Nat) (c : Int) (os : List Int) : Prop where
  len : os.length = i
  digs : Digs (dg os)
  c0 : 0 ≤ c
  c1 : c ≤ 1
  eq : val os - c * pw i = dv f i - dv g i
theorem SubInv.first (f g : Nat → Int) : SubInv f g 0 0 [] := ⟨rfl, digs_nil, by omega, by omega, by rw [val_nil]; simp [dv]⟩
theorem SubInv.next {f g : Nat → Int} {i : Nat} {c : Int} {os : List Int} (h : SubInv f g i c os) (d c' : Int) (hd : f i - g i - c = d - 10000 * c') (d0 : 0 ≤ d) (d1 : d ≤ 9999) (c0 : 0 ≤ c') (c1 : c' ≤ 1) : SubInv f g (i + 1) c' (os ++ [d]) := by
  refine ⟨by rw [List.length_append, h.len]; rfl, digs_snoc h.digs d0 d1, c0, c1, ?_⟩
  rw [val_snoc, h.len, dv, dv, pw_succ]
  have e := h.eq
  have e1 : (f i - g i - c) * pw i = f i * pw i - g i * pw i - c * pw i := by rw [Int.sub_mul, Int.sub_mul]
  have e2 : (d - 10000 * c') * pw i = d * pw i - c' * (10000 * pw i) := by rw [Int.sub_mul, Int.mul_left_comm, Int.mul_assoc]
  rw [hd, e2] at e1
  omega
theorem SubInv.last {da db : List Int} {c : Int} {os : List Int} (h : SubInv (dg da) (dg db) da.length c os) (ha : Digs (dg da)) (hb : Digs (dg db)) (hle : val db ≤ val da) : val os = val da - val db := by
  have e := h.eq
  have a1 := (val_bd ha).2
  have hz := dv_zero hb (m := da.length) (n := db.length) (by show val db < _; omega)
  have hv : dv (dg db) da.length = val db := by
    rcases Nat.le_total da.length db.length with hl | hl
    · unfold val
      symm
      refine dv_ext hl (fun i hi => ?_)
      by_cases hi2 : i < db.length
      · exact hz i hi hi2
      · exact dg_out (by omega)
    · exact val_ext hl
  rw [hv] at e
  change val os - c * pw da.length = val da - val db at e
  have o := val_bd h.digs
  rw [h.len] at o
  have c0 := h.c0
  have c1 := h.c1
  rcases (by omega : c = 0 ∨ c = 1) with hc | hc
  · rw [hc] at e; omega
  · rw [hc] at e; omega

set_option maxRecDepth 100000 in
set_option maxHeartbeats 4000000 in
theorem add_ge (na nb : Bool) (pa pb : Option Addr) (la lb ca cb : Nat) (da db : List Int) (w : World) (ha : DRow w pa la da) (hb : DRow w pb lb db) (hla : la ≤ 100000) (hlb : lb ≤ 100000)
    (hne : (na == nb) = false) (hle : val db ≤ val da) :
    Calls Tryz.prog 29 #[.agg #[.bool na, .slice pa la ca], .agg #[.bool nb, .slice pb lb cb]] w (RetB w la (sgB na (val da - val db))) := by
  have fa := Lib.hid ha.2.1
  have fb := Lib.hid hb.2.1
  have la' := Lib.hid ha.1
  have hH0 := Lib.hid (Hold.made (na := na) (nb := nb) (ca := ca) (cb := cb) ha hb)
  clear ha hb
  have hcmp : Hid (cmp3 (val da) (val db) = 0 ∨ cmp3 (val da) (val db) = 1) := by
    show _ ∨ _
    unfold cmp3
    split
    · exact .inr rfl
    · rw [if_neg (by omega)]; exact .inl rfl
  replace hle := Lib.hid hle
  go_enter Tryz.func29, Tryz.ntmps29
  go_wp2_with fail
  have hO0 : Outs ((((w.alloc (Obj.cells #[Value.bool na, Value.slice pa la ca] 79)).alloc (Obj.cells #[Value.bool nb, Value.slice pb lb cb] 79)).alloc (Obj.cells #[Value.bool false, Value.slice none 0 0] 79)).alloc (Obj.cells #[Value.bool na, Value.slice none 0 0] 79)) (w.heap.size + 1 + 1 + 1) (w.heap.size + 1 + 1) na (.slice none 0 0) [] := by
    have hx := Outs.made (((w.alloc (Obj.cells #[Value.bool na, Value.slice pa la ca] 79)).alloc (Obj.cells #[Value.bool nb, Value.slice pb lb cb] 79)).alloc (Obj.cells #[Value.bool false, Value.slice none 0 0] 79)) (w.heap.size + 1 + 1) na (by
      have := Box.made ((w.alloc (Obj.cells #[Value.bool na, Value.slice pa la ca] 79)).alloc (Obj.cells #[Value.bool nb, Value.slice pb lb cb] 79)) false none 0 0
      simpa using this) (by simp)
    simpa using hx
  have hH1 := hH0.out.keptTo (n := w.heap.size + 1 + 1) (((Below.refl _ _).alloc (by simp) (Obj.cells #[Value.bool false, Value.slice none 0 0] 79)).alloc (by simp) (Obj.cells #[Value.bool na, Value.slice none 0 0] 79)) (by omega)
  refine (larger_any na nb pa pb la lb ca cb da db _ hH1.a hH1.b (by omega) (by omega)).mono ?_
  rintro e w1 ⟨rfl, hb1⟩
  have hH2 := hH1.kept hb1
  have hO2 := hO0.kept hb1
  clear hO0 hH1 hb1
  have hc0 : ¬ cmp3 (val da) (val db) < 0 := by rcases hcmp.out with h | h <;> omega
  obtain ⟨t0, t1, t2, t3⟩ := hH2.two
  replace hH2 := Lib.hid hH2
  replace hO2 := Lib.hid hO2
  generalize cmp3 (val da) (val db) = cm at *
  go_wp2_with fail
  clear t0 t1 t2 t3
  go_loopw [6, 8] (fun c i wr => ∃ (k : Nat) (cv : Int) (os : List Int) (v : Value), k ≤ la ∧ c = .int .i64 cv ∧ i = .int .i64 k ∧ SubInv (dg da) (dg db) k cv os ∧ Hold w wr na nb pa pb la lb ca cb da db ∧ Outs wr (w.heap.size + 1 + 1 + 1) (w.heap.size + 1 + 1) na v os)
    (fun _ i _ => la - (intOf i).toNat)
  case atStart => exact ⟨0, 0, [], .slice none 0 0, by omega, rfl, rfl, SubInv.first _ _, hH2.out, hO2.out⟩
  case round =>
    clear hH2 hO2 hH0
    obtain ⟨k, cv, os, v, hk, rfl, rfl, inv, hH, hO⟩ := hrel
    have kl := inv.len
    obtain ⟨t0, t1, t2, t3⟩ := hH.two
    by_cases hlast : k = la
    · subst hlast
      have hval := Lib.hid (SubInv.last (da := da) (db := db) (c := cv) (os := os) (by rw [la'.out]; exact inv) fa.out fb.out hle.out)
      obtain ⟨p, cap, rfl, hlc, hpc, hrow, hbase⟩ := own_drow hO.own inv.digs
      have q0 := hO.c0
      have q1 := hO.c1
      replace hrow := Lib.hid hrow
      replace hpc := Lib.hid hpc
      replace hbase := Lib.hid hbase
      replace inv := Lib.hid inv
      replace hH := Lib.hid hH
      replace hO := Lib.hid hO
      rw [kl] at hlc
      rw [kl] at q1
      rw [kl] at hrow
      clear kl
      go_wp2_with fail
      refine (trim_any na p k cap os _ hrow.out hlc hpc.out (by omega)).mono ?_
      rintro e w2 ⟨v, rfl, hv, hb2⟩
      have hbox : Box w2 (w.heap.size + 1 + 1) := hO.out.box.kept hb2 (by have := hO.out.size; omega)
      obtain ⟨x, q, l, c, g0, g1, k0, k1⟩ := hbox.cells
      obtain ⟨neg', p', len', cap', ds', rfl, hrow', hlc', hpc', hlen', hN', hz'⟩ := hv
      have hB := Lib.hid (hH.out.bel.trans (hb2.mono hH.out.bel.size))
      replace hrow' := Lib.hid hrow'
      replace hpc' := Lib.hid hpc'
      replace hN' := Lib.hid hN'
      replace hz' := Lib.hid hz'
      replace hbox := Lib.hid hbox
      clear t0 t1 t2 t3 q0 q1 hb2
      go_wp2_with fail
      refine bodyPost_ret (v := .agg #[.bool neg', .slice p' len' cap']) (by simp [results, Tryz.results29, go_sem, g0, g1]) rfl ⟨_, rfl, ⟨neg', p', len', cap', ds', rfl, hbox.out.stored hrow'.out _ _, hlc', hpc'.out, hlen', ?_, hz'.out⟩, ?_⟩
      · rw [hN'.out, hval.out]
      · exact (hB.out.setCell (by simp; omega) _).setCell (by simp; omega) _
    · have d0 := fa.out k
      have d1 := fb.out k
      have cc0 := inv.c0
      have cc1 := inv.c1
      have hnx := Lib.hid (fun d c' => inv.next d c')
      replace inv := Lib.hid inv
      replace hH := Lib.hid hH
      replace hO := Lib.hid hO
      generalize hx : dg da k = x at *
      generalize hy : dg db k = y at *
      replace hx := Lib.hid hx
      replace hy := Lib.hid hy
      replace kl := Lib.hid kl
      have hklt : (k : Int) < (la : Int) := by omega
      have e1 : IntKind.i64.wrap (x - y) = x - y := by rw [IntKind.wrap_i64]; omega
      have e2 : IntKind.i64.wrap (x - y - cv) = x - y - cv := by rw [IntKind.wrap_i64]; omega
      have hkl : k ≤ 1000000 := by omega
      go_upto_region 16 with (fail)
      go_region_held3 (fun w' => w'.cell? ⟨w.heap.size, 0, none⟩ = some (.bool na) ∧ w'.cell? ⟨w.heap.size, 1, none⟩ = some (.slice pa la ca) ∧ w'.cell? ⟨w.heap.size + 1, 0, none⟩ = some (.bool nb) ∧ w'.cell? ⟨w.heap.size + 1, 1, none⟩ = some (.slice pb lb cb))
        (first | exact hH.out.two | exact hH1.out.two | exact hH2.out.two)
        (first
          | (go_at_call 56; (with_reducible refine (digA (w := w) (nb := nb) (pb := pb) (lb := lb) (cb := cb) (db := db) (da := da) ?_ k ?_).mono ?_); exact hH.out.drew; exact hkl; rintro e w1 ⟨rfl, hH1, hb1⟩; rw [hx.out]; replace hH1 := Lib.hid hH1; have hO1 := Lib.hid (hO.out.drew.kept hb1); clear hb1)
          | (go_at_call 56; (with_reducible refine (digB (w := w) (na := na) (pa := pa) (la := la) (ca := ca) (da := da) (db := db) ?_ k ?_).mono ?_); exact hH1.out; exact hkl; rintro e w2 ⟨rfl, hH2, hb2⟩; rw [hy.out]; replace hH2 := Lib.hid hH2; have hO2 := Lib.hid (hO1.out.kept hb2); clear hb2))
      clear t0 t1 t2 t3 e1 e2 hH hH1 hO hO1
      by_cases hd : x - y - cv < 0
      · have inv' := Lib.hid (hnx.out (x - y - cv + 10000) 1 (by omega) (by omega) (by omega) (by omega) (by omega))
        obtain ⟨g, c, w', hrun, z1, z2, hO3, hb3⟩ := hO2.out.more (x - y - cv + 10000) (by rw [kl.out]; omega)
        have q1 := hO2.out.c1
        have hH3 := Lib.hid (hH2.out.keptTo hb3 (by omega))
        replace hO3 := Lib.hid hO3
        replace hb3 := Lib.hid hb3
        replace hrun := Lib.hid hrun
        go_wp2_with (at_builtin; refine wpList_app rfl _ _ _ _ rfl _ _ _ _ rfl rfl hrun.out ?_)
        go_roundw
        case rel => exact ⟨k + 1, 1, _, _, by omega, rfl, by go_num, inv'.out, hH3.out, hO3.out⟩
        case measure => simp [intOf]; omega
      · have inv' := Lib.hid (hnx.out (x - y - cv) 0 (by omega) (by omega) (by omega) (by omega) (by omega))
        obtain ⟨g, c, w', hrun, z1, z2, hO3, hb3⟩ := hO2.out.more (x - y - cv) (by rw [kl.out]; omega)
        have q1 := hO2.out.c1
        have hH3 := Lib.hid (hH2.out.keptTo hb3 (by omega))
        replace hO3 := Lib.hid hO3
        replace hb3 := Lib.hid hb3
        replace hrun := Lib.hid hrun
        go_wp2_with (at_builtin; refine wpList_app rfl _ _ _ _ rfl _ _ _ _ rfl rfl hrun.out ?_)
        go_roundw
        case rel => exact ⟨k + 1, 0, _, _, by omega, rfl, by go_num, inv'.out, hH3.out, hO3.out⟩
        case measure => simp [intOf]; omega

set_option maxRecDepth 100000 in
set_option maxHeartbeats 4000000 in
theorem add_lt (na nb : Bool) (pa pb : Option Addr) (la lb ca cb : Nat) (da db : List Int) (w : World) (ha : DRow w pa la da) (hb : DRow w pb lb db) (hla : la ≤ 100000) (hlb : lb ≤ 100000)
    (hne : (na == nb) = false) (hlt : val da < val db) :
    Calls Tryz.prog 29 #[.agg #[.bool na, .slice pa la ca], .agg #[.bool nb, .slice pb lb cb]] w (RetB w lb (sgB nb (val db - val da))) := by
  have hH0 := Lib.hid (Hold.made (na := na) (nb := nb) (ca := ca) (cb := cb) ha hb)
  clear ha hb
  have hcmp : Hid (cmp3 (val da) (val db) = -1) := by
    show _ = _
    unfold cmp3
    rw [if_neg (by omega), if_pos hlt]
  replace hlt := Lib.hid hlt
  go_enter Tryz.func29, Tryz.ntmps29
  go_wp2_with fail
  have hbox0 : Box ((((w.alloc (Obj.cells #[Value.bool na, Value.slice pa la ca] 79)).alloc (Obj.cells #[Value.bool nb, Value.slice pb lb cb] 79)).alloc (Obj.cells #[Value.bool false, Value.slice none 0 0] 79)).alloc (Obj.cells #[Value.bool na, Value.slice none 0 0] 79)) (w.heap.size + 1 + 1) := by
    have := Box.made ((w.alloc (Obj.cells #[Value.bool na, Value.slice pa la ca] 79)).alloc (Obj.cells #[Value.bool nb, Value.slice pb lb cb] 79)) false none 0 0
    have h2 := this.kept ((Below.refl _ _).alloc (Nat.le_refl _) (Obj.cells #[Value.bool na, Value.slice none 0 0] 79)) (by simp)
    simpa using h2
  have hH1 := hH0.out.keptTo (n := w.heap.size + 1 + 1) (((Below.refl _ _).alloc (by simp) (Obj.cells #[Value.bool false, Value.slice none 0 0] 79)).alloc (by simp) (Obj.cells #[Value.bool na, Value.slice none 0 0] 79)) (by omega)
  refine (larger_any na nb pa pb la lb ca cb da db _ hH1.a hH1.b (by omega) (by omega)).mono ?_
  rintro e w1 ⟨rfl, hb1⟩
  rw [hcmp.out]
  have hH2 := hH1.kept hb1
  have hbox1 := hbox0.kept hb1 (by simp)
  have hs1 := hb1.size
  simp at hs1
  clear hH1 hb1 hbox0
  obtain ⟨t0, t1, t2, t3⟩ := hH2.two
  replace hH2 := Lib.hid hH2
  replace hbox1 := Lib.hid hbox1
  go_wp2_with fail
  refine (add_ge nb na pb pa lb la cb ca db da _ hH2.out.b hH2.out.a hlb hla (by cases na <;> cases nb <;> simp_all) (Int.le_of_lt hlt.out)).mono ?_
  rintro e w2 ⟨v, rfl, hv, hb2⟩
  have hbox : Box w2 (w.heap.size + 1 + 1) := hbox1.out.kept hb2 (by omega)
  obtain ⟨x, q, l, c, g0, g1, k0, k1⟩ := hbox.cells
  obtain ⟨neg', p', len', cap', ds', rfl, hrow', hlc', hpc', hlen', hN', hz'⟩ := hv
  have hB := Lib.hid (hH2.out.bel.trans (hb2.mono hH2.out.bel.size))
  replace hrow' := Lib.hid hrow'
  replace hpc' := Lib.hid hpc'
  replace hN' := Lib.hid hN'
  replace hz' := Lib.hid hz'
  replace hbox := Lib.hid hbox
  clear t0 t1 t2 t3 hb2
  go_wp2_with fail
  refine bodyPost_ret (v := .agg #[.bool neg', .slice p' len' cap']) (by simp [results, Tryz.results29, go_sem, g0, g1]) rfl ⟨_, rfl, ⟨neg', p', len', cap', ds', rfl, hbox.out.stored hrow'.out _ _, hlc', hpc'.out, hlen', hN'.out, hz'.out⟩, ?_⟩
  exact (hB.out.setCell (by simp; omega) _).setCell (by simp; omega) _

/-- a sum of exact numbers -/
theorem addB_any (v v' : Value) (L : Nat) (N N' : Int) (w : World) (h : IsB w v L N) (h' : IsB w v' L N') (hL : L ≤ 100000) :
    Calls Tryz.prog 29 #[v, v'] w (RetB w (L + 1) (N + N')) := by
  obtain ⟨na, pa, la, ca, da, rfl, ha, _, _, hla, hN, _⟩ := h
  obtain ⟨nb, pb, lb, cb, db, rfl, hb, _, _, hlb, hN', _⟩ := h'
  by_cases hs : na = nb
  · subst hs
    have hM : la < lb ∧ lb = max la lb ∨ ¬ la < lb ∧ la = max la lb := by omega
    refine (add_same na pa pb la lb ca cb (max la lb) da db w ha hb (by omega) (by omega) hM).mono fun e w' hr => hr.more (by omega) ?_
    rw [← hN, ← hN']
    unfold sgB
    cases na <;> simp <;> omega
  · have hne : (na == nb) = false := by simpa using hs
    rcases Int.lt_or_le (val da) (val db) with hlt | hle
    · refine (add_lt na nb pa pb la lb ca cb da db w ha hb (by omega) (by omega) hne hlt).mono fun e w' hr => hr.more (by omega) ?_
      rw [← hN, ← hN']
      unfold sgB
      cases na <;> cases nb <;> simp at hs ⊢ <;> omega
    · refine (add_ge na nb pa pb la lb ca cb da db w ha hb (by omega) (by omega) hne hle).mono fun e w' hr => hr.more (by omega) ?_
      rw [← hN, ← hN']
      unfold sgB
      cases na <;> cases nb <;> simp at hs ⊢ <;> omega
end Go.Proofs.YthocnlalahknjaaGreat
