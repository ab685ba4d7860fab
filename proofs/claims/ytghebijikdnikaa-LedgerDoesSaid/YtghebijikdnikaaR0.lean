/- Plain arithmetic of numbers by digits of ten thousands: no Go text. -/
import Derived.Below
namespace Go.Proofs.Ytghebijikdnikaa
set_option linter.unusedVariables false

/-- the power of ten thousand -/
def pw (n : Nat) : Int := 10000 ^ n
theorem pw_zero : pw 0 = 1 := rfl
theorem pw_succ (n : Nat) : pw (n + 1) = 10000 * pw n := by unfold pw; rw [Int.pow_succ, Int.mul_comm]
theorem pw_pos (n : Nat) : 1 ≤ pw n := by
  induction n with
  | zero => simp [pw]
  | succ n ih => rw [pw_succ]; omega
theorem pw_add (m n : Nat) : pw (m + n) = pw m * pw n := by unfold pw; rw [Int.pow_add]
theorem pw_mono {m n : Nat} (h : m ≤ n) : pw m ≤ pw n := by
  obtain ⟨k, rfl⟩ := Nat.exists_eq_add_of_le h
  induction k with
  | zero => simp
  | succ k ih => rw [← Nat.add_assoc, pw_succ]; have := ih (by omega); have := pw_pos (m + k); omega

/-- the number of the first n digits -/
def dv (f : Nat → Int) : Nat → Int
  | 0 => 0
  | n + 1 => dv f n + f n * pw n
def Digs (f : Nat → Int) : Prop := ∀ i, 0 ≤ f i ∧ f i ≤ 9999

theorem dig_mul {d n : Int} (h0 : 0 ≤ d) (h1 : d ≤ 9999) (p : 1 ≤ n) : 0 ≤ d * n ∧ d * n ≤ 9999 * n :=
  ⟨Int.mul_nonneg h0 (by omega), Int.mul_le_mul_of_nonneg_right h1 (by omega)⟩
theorem dv_bd {f : Nat → Int} (hf : Digs f) : ∀ n, 0 ≤ dv f n ∧ dv f n < pw n
  | 0 => by simp [dv, pw]
  | n + 1 => by
    obtain ⟨h1, h2⟩ := dv_bd hf n
    obtain ⟨d0, d1⟩ := hf n
    obtain ⟨m0, m1⟩ := dig_mul d0 d1 (pw_pos n)
    rw [dv, pw_succ]
    omega
theorem dv_congr {f g : Nat → Int} : ∀ n, (∀ i, i < n → f i = g i) → dv f n = dv g n
  | 0, _ => rfl
  | n + 1, h => by rw [dv, dv, dv_congr n (fun i hi => h i (by omega)), h n (by omega)]
theorem dv_ext {f : Nat → Int} {m n : Nat} (h : m ≤ n) (hz : ∀ i, m ≤ i → f i = 0) : dv f n = dv f m := by
  obtain ⟨k, rfl⟩ := Nat.exists_eq_add_of_le h
  induction k with
  | zero => rfl
  | succ k ih => rw [← Nat.add_assoc, dv, ih (by omega), hz (m + k) (by omega), Int.zero_mul, Int.add_zero]
theorem dv_mono {f : Nat → Int} (hf : Digs f) {m n : Nat} (h : m ≤ n) : dv f m ≤ dv f n := by
  obtain ⟨k, rfl⟩ := Nat.exists_eq_add_of_le h
  induction k with
  | zero => exact Int.le_refl _
  | succ k ih =>
    obtain ⟨d0, d1⟩ := hf (m + k)
    have := (dig_mul d0 d1 (pw_pos (m + k))).1
    rw [← Nat.add_assoc, dv]
    have := ih (by omega)
    omega
/-- digits that agree from k on -/
theorem dv_agree {f g : Nat → Int} {k n : Nat} (h : k ≤ n) (he : ∀ i, k ≤ i → i < n → f i = g i) : dv f n - dv g n = dv f k - dv g k := by
  obtain ⟨j, rfl⟩ := Nat.exists_eq_add_of_le h
  induction j with
  | zero => rfl
  | succ j ih =>
    rw [← Nat.add_assoc, dv, dv, he (k + j) (by omega) (by omega)]
    have := ih (by omega) (fun i h1 h2 => he i h1 (by omega))
    omega
theorem dv_first {f g : Nat → Int} (hf : Digs f) (hg : Digs g) {k n : Nat} (h : k < n) (he : ∀ i, k < i → i < n → f i = g i) (hk : g k < f k) : dv g n < dv f n := by
  have h1 := dv_agree (f := f) (g := g) (k := k + 1) (n := n) h (fun i a b => he i (by omega) b)
  have h2 := dv_bd hf k
  have h3 := dv_bd hg k
  rw [dv, dv] at h1
  have h4 : (f k - g k) * pw k ≥ 1 * pw k := Int.mul_le_mul_of_nonneg_right (by omega) (by have := pw_pos k; omega)
  rw [Int.sub_mul, Int.one_mul] at h4
  omega
/-- a digit that is not 0 is seen in the number -/
theorem dv_zero {f : Nat → Int} (hf : Digs f) {m n : Nat} (hm : dv f n < pw m) : ∀ i, m ≤ i → i < n → f i = 0 := by
  intro i h1 h2
  have h3 := dv_mono hf (show i + 1 ≤ n from h2)
  have h4 := (dv_bd hf i).1
  obtain ⟨d0, d1⟩ := hf i
  have h5 := pw_mono h1
  have h6 := pw_pos i
  apply Int.le_antisymm ?_ d0
  apply Int.not_lt.1
  intro hlt
  have h7 : 1 * pw i ≤ f i * pw i := Int.mul_le_mul_of_nonneg_right (by omega) (by omega)
  rw [dv] at h3
  omega

/-- a list's digits -/
def dg (l : List Int) : Nat → Int := fun i => l.getD i 0
def val (l : List Int) : Int := dv (dg l) l.length
theorem dg_out {l : List Int} {i : Nat} (h : l.length ≤ i) : dg l i = 0 := by unfold dg; rw [List.getD_eq_getElem?_getD, List.getElem?_eq_none h]; rfl
theorem val_ext {l : List Int} {n : Nat} (h : l.length ≤ n) : dv (dg l) n = val l := dv_ext h (fun i hi => dg_out hi)
theorem val_bd {l : List Int} (hd : Digs (dg l)) : 0 ≤ val l ∧ val l < pw l.length := dv_bd hd _
theorem val_take {l : List Int} {n : Nat} (h : n ≤ l.length) (hz : ∀ i, n ≤ i → dg l i = 0) : val (l.take n) = val l := by
  unfold val
  rw [dv_ext h hz, List.length_take, Nat.min_eq_left h]
  apply dv_congr
  intro i hi
  unfold dg
  rw [List.getD_eq_getElem?_getD, List.getD_eq_getElem?_getD, List.getElem?_take, if_pos hi]
theorem dg_snoc_lt {l : List Int} {d : Int} {i : Nat} (h : i < l.length) : dg (l ++ [d]) i = dg l i := by
  unfold dg; rw [List.getD_eq_getElem?_getD, List.getD_eq_getElem?_getD, List.getElem?_append_left h]
theorem dg_snoc_eq {l : List Int} {d : Int} : dg (l ++ [d]) l.length = d := by
  unfold dg; rw [List.getD_eq_getElem?_getD, List.getElem?_append_right (Nat.le_refl _)]; simp
theorem val_snoc (l : List Int) (d : Int) : val (l ++ [d]) = val l + d * pw l.length := by
  unfold val
  rw [show (l ++ [d]).length = l.length + 1 from by simp, dv, dg_snoc_eq, dv_congr l.length (fun i hi => dg_snoc_lt hi)]
theorem digs_snoc {l : List Int} {d : Int} (h : Digs (dg l)) (h0 : 0 ≤ d) (h1 : d ≤ 9999) : Digs (dg (l ++ [d])) := by
  intro i
  rcases Nat.lt_trichotomy i l.length with hi | hi | hi
  · rw [dg_snoc_lt hi]; exact h i
  · rw [hi, dg_snoc_eq]; exact ⟨h0, h1⟩
  · rw [dg_out (by simp; omega)]; exact ⟨by decide, by decide⟩
theorem digs_nil : Digs (dg []) := fun i => by unfold dg; simp
theorem digs_take {l : List Int} (h : Digs (dg l)) (n : Nat) : Digs (dg (l.take n)) := by
  intro i
  by_cases hi : i < n
  · have : dg (l.take n) i = dg l i := by unfold dg; rw [List.getD_eq_getElem?_getD, List.getD_eq_getElem?_getD, List.getElem?_take, if_pos hi]
    rw [this]; exact h i
  · rw [dg_out (by simp; omega)]; exact ⟨by decide, by decide⟩
/-- a digit ahead of the others -/
theorem dv_shift (f : Nat → Int) : ∀ n, dv f (n + 1) = f 0 + 10000 * dv (fun i => f (i + 1)) n
  | 0 => by simp [dv, pw]
  | n + 1 => by
    rw [dv, dv_shift f n, dv, pw_succ, Int.mul_add]
    rw [show f (n + 1) * (10000 * pw n) = 10000 * (f (n + 1) * pw n) from by rw [Int.mul_left_comm]]
    omega
theorem val_cons (d : Int) (l : List Int) : val (d :: l) = d + 10000 * val l := by
  unfold val
  rw [List.length_cons, dv_shift]
  rfl
theorem val_nil : val [] = 0 := rfl
/-- one digit is set -/
theorem dv_set {f g : Nat → Int} {k n : Nat} (hk : k < n) (h : ∀ i, i ≠ k → g i = f i) : dv g n = dv f n + (g k - f k) * pw k := by
  have h1 := dv_agree (f := g) (g := f) (k := k + 1) (n := n) hk (fun i a b => h i (by omega))
  rw [dv, dv, dv_congr k (fun i hi => h i (by omega))] at h1
  rw [Int.sub_mul]
  omega
end Go.Proofs.Ytghebijikdnikaa
