/- The contract of balanced.
  The contract of Read. -/
import Derived.Test.YtllhpdohahoelaaLH8
import Derived.Test.YtllhpdohahoelaaLH6
import Derived.Test.YtllhpdohahoelaaLH4
import Derived.Deep.RegionWith
namespace Go.Proofs.Ytllhpdohahoelaa
open Go.RowKit
set_option linter.unusedVariables false

/-- a column of so many members' -/
def colB (B : Nat → Nat → Int) (k c : Nat) : List Int := (List.range k).map fun m => B m c
theorem colB_len (B : Nat → Nat → Int) (k c : Nat) : (colB B k c).length = k := by unfold colB; simp
theorem colB_succ (B : Nat → Nat → Int) (k c : Nat) : colB B (k + 1) c = colB B k c ++ [B k c] := by unfold colB; rw [List.range_succ, List.map_append]; rfl
theorem sumL_app : ∀ (a b : List Int), sumL (a ++ b) = sumL a + sumL b
  | [], b => by show sumL b = 0 + sumL b; omega
  | x :: a, b => by
    show x + sumL (a ++ b) = x + sumL a + sumL b
    rw [sumL_app a b]; omega
theorem colB_sum (B : Nat → Nat → Int) (c : Nat) : ∀ k, sumL (colB B k c) = sumM (fun m => B m c) k
  | 0 => rfl
  | k + 1 => by
    rw [colB_succ, sumL_app, colB_sum B c k]
    show _ + (B k c + 0) = sumM (fun m => B m c) k + B k c
    omega
/-- columns of k members' and of so many amounts of the next one's -/
def colsK (B : Nat → Nat → Int) (k j : Nat) : Nat → List Int := fun c => if c < j then colB B (k + 1) c else colB B k c
theorem colsK_succ (B : Nat → Nat → Int) (k j : Nat) : upd (colsK B k j) j (colsK B k j j ++ [B k j]) = colsK B k (j + 1) := by
  funext c
  unfold upd colsK
  by_cases e : c = j
  · subst e
    rw [if_pos rfl, if_neg (by omega), if_pos (by omega), colB_succ]
  · rw [if_neg e]
    by_cases h : c < j
    · rw [if_pos h, if_pos (by omega)]
    · rw [if_neg h, if_neg (by omega)]
theorem CS.congr {B : Nat} {w : World} {g : Nat} {cols cols' : Nat → List Int} {v : Nat → Value} (h : CS B w g cols v) (e : ∀ c, c < 8 → cols c = cols' c) : CS B w g cols' v :=
  ⟨h.obj, fun c hc => by rw [← e c hc]; exact h.own c hc, h.apart⟩
theorem colsK_all (B : Nat → Nat → Int) (k : Nat) : ∀ c, c < 8 → colsK B k 8 c = colsK B (k + 1) 0 c := fun c hc => by
  unfold colsK; rw [if_pos hc, if_neg (by omega)]
theorem index59 (f : Nat → Int) (w : World) {c : Nat} (hc : c < 8) : (Instr.index 69 (.agg (r8 f)) (.int .i64 (c : Int))).run Try.prog w = .ok (.int .i64 (f c)) w := by
  rcases lt8 hc with rfl | rfl | rfl | rfl | rfl | rfl | rfl | rfl <;> kernel_rfl
/-- what balanced tells -/
def balB (l : LM) : Bool := fitC (fun c => colB l.B l.nm c) && eqR (sumR fun c => colB l.B l.nm c) l.N
/-- what there is beside a ledger's currencies is 0 -/
structure LM.Zero (l : LM) : Prop where
  nb : ∀ m c, m < l.nm → c < 8 → ¬ c < l.nc → l.B m c = 0
  nn : ∀ c, c < 8 → ¬ c < l.nc → l.N c = 0
theorem sumM_none {f : Nat → Int} : ∀ n, (∀ m, m < n → f m = 0) → sumM f n = 0
  | 0, _ => rfl
  | n + 1, h => by
    show sumM f n + f n = 0
    rw [sumM_none n fun m hm => h m (by omega), h n (by omega)]
    rfl
theorem balB_eq {l : LM} (hc : l.nc ≤ 8) (hn : ∀ c, In64 (l.N c)) (hz : l.Zero) : balB l = sumsL l := by
  refine Bool.eq_iff_iff.2 ?_
  unfold balB sumsL
  rw [Bool.and_eq_true, fitC_iff]
  constructor
  · rintro ⟨h1, h2⟩
    have hf : fitC (fun c => colB l.B l.nm c) = true := fitC_iff.2 h1
    unfold eqR sumR at h2
    rw [hf, List.all_eq_true] at h2
    rw [List.all_eq_true]
    intro c hcm
    have hc' := List.mem_range.1 hcm
    have := h2 c (List.mem_range.2 (by omega))
    simp only [if_true] at this
    rw [colB_sum] at this
    exact this
  · intro h
    rw [List.all_eq_true] at h
    have hs : ∀ c, c < 8 → sumM (fun m => l.B m c) l.nm = l.N c := fun c hc8 => by
      by_cases e : c < l.nc
      · simpa using h c (List.mem_range.2 e)
      · rw [hz.nn c hc8 e, sumM_none _ fun m hm => hz.nb m c hm hc8 e]
    have h1 : ∀ c, c < 8 → In64 (sumL (colB l.B l.nm c)) := fun c hc8 => by rw [colB_sum, hs c hc8]; exact hn c
    refine ⟨h1, ?_⟩
    unfold eqR sumR
    rw [fitC_iff.2 h1, List.all_eq_true]
    intro c hcm
    have hc8 := List.mem_range.1 hcm
    simp only [if_true]
    rw [colB_sum, hs c hc8]
    simp
/-- balanced's way -/
structure BSt (w : World) (l : LM) (k j : Nat) (v : Nat → Value) (wr : World) : Prop where
  cs : CS w.heap.size wr w.heap.size (colsK l.B k j) v
  blw : Below w.heap.size w wr
theorem colsK_len (B : Nat → Nat → Int) (k j c : Nat) : (colsK B k j c).length ≤ k + 1 := by
  unfold colsK
  split
  · rw [colB_len]; omega
  · rw [colB_len]; omega

end Go.Proofs.Ytllhpdohahoelaa
namespace Go.Proofs.Ytllhpdohahoelaa
open Go.RowKit
set_option linter.unusedVariables false

theorem PLv.gb {P : Nat → Prop} {w : World} {b gB cB : Nat} {l : LM} (h : PLv P w b l gB cB) : gB ≠ b := by
  rintro rfl
  have h1 := h.obj
  obtain ⟨cs', h2, _⟩ := h.bal
  rw [h1] at h2
  simp at h2
theorem PLv.putN {P : Nat → Prop} {w : World} {b gB cB : Nat} {l : LM} (h : PLv P w b l gB cB) (f : Nat → Int) : PLv P (st8 w b 1 f) b ⟨l.nm, l.nc, l.B, f⟩ gB cB :=
  ⟨lObj_set h.obj f, h.bal.at (st8_other _ _ _ h.gb), h.nm, h.nc, h.own⟩
theorem PLv.putB {P : Nat → Prop} {w : World} {b gB cB : Nat} {l : LM} (h : PLv P w b l gB cB) {m : Nat} (hm : m < l.nm) (r : Nat → Int) : PLv P (st8 w gB (m * 8) r) b ⟨l.nm, l.nc, updR l.B m r, l.N⟩ gB cB :=
  ⟨(st8_other w (m * 8) r (Ne.symm h.gb)).trans h.obj, h.bal.set hm r, h.nm, h.nc, h.own⟩
theorem rowT_drop {l m : List UInt8} {a n : Nat} (h : m = l.drop a) : rowT m 0 n = rowT l a n := by
  subst h
  funext c
  unfold rowT
  split
  · unfold amt
    rw [List.drop_drop, Nat.zero_add]
  · rfl
theorem told_N (s : List UInt8) : (toldL s).N = rowT s 2 (toldL s).nc := rfl
theorem told_B (s : List UInt8) {k : Nat} (hk : k < (toldL s).nm) : (toldL s).B k = rowT s (2 + 8 * (toldL s).nc * (1 + k)) (toldL s).nc := by
  funext c
  show (if k < (toldL s).nm ∧ c < (toldL s).nc then amt s (2 + 8 * ((toldL s).nc * (k + 1) + c)) else 0) = _
  unfold rowT
  by_cases h : c < (toldL s).nc
  · rw [if_pos h, if_pos ⟨hk, h⟩]
    congr 1
    rw [Nat.mul_add, Nat.mul_assoc, Nat.add_comm k 1]
    omega
  · rw [if_neg h, if_neg (fun e => h e.2)]
theorem told_zero (s : List UInt8) : (toldL s).Zero := ⟨fun m c _ _ h => if_neg (fun e => h e.2), fun c _ h => if_neg h⟩
theorem told_in64 (s : List UInt8) : (∀ m c, In64 ((toldL s).B m c)) ∧ ∀ c, In64 ((toldL s).N c) := by
  refine ⟨fun m c => ?_, fun c => ?_⟩
  · show In64 (if m < (toldL s).nm ∧ c < (toldL s).nc then amt s (2 + 8 * ((toldL s).nc * (m + 1) + c)) else 0)
    split
    · exact amt_in _ _
    · decide
  · rw [told_N]; exact rowT_in _ _ _ _
theorem PLv.congr {P : Nat → Prop} {w : World} {b gB cB nm nc : Nat} {B C : Nat → Nat → Int} {N : Nat → Int} (h : PLv P w b ⟨nm, nc, B, N⟩ gB cB) (e : ∀ m c, m < nm → c < 8 → B m c = C m c) : PLv P w b ⟨nm, nc, C, N⟩ gB cB :=
  ⟨h.obj, h.bal.congr e, h.nm, h.nc, h.own⟩
theorem bl_tail (s : ByteArray) (a : Nat) : bl (s.extract a s.size) = (bl s).drop a := by
  rw [bl_ext, List.take_of_length_le]
  rw [List.length_drop, bl_length]
  exact Nat.le_refl _
/-- what Read tells -/
def ReadP (s : ByteArray) (w : World) (e : Ending) (w' : World) : Prop :=
  (∀ l, readL (bl s) = (0, some l) → ∃ b, e = .returned (.tuple #[.pointer (some ⟨b, 0, none⟩), .int .i64 0]) ∧ PL (fun j => w.heap.size ≤ j) w' b l) ∧
  ((readL (bl s)).2 = none → e = .returned (.tuple #[.pointer none, .int .i64 (readL (bl s)).1])) ∧ Below w.heap.size w w'
theorem ReadP.form {s : ByteArray} {w w' : World} (h : formL (bl s) = false) (hb : Below w.heap.size w w') : ReadP s w (.returned (.tuple #[.pointer none, .int .i64 2])) w' := by
  have e : readL (bl s) = (2, none) := by unfold readL; rw [h]; rfl
  refine ⟨fun l hl => by rw [e] at hl; simp at hl, fun _ => by rw [e], hb⟩
/-- what New tells, its answer in two parts -/
theorem new_two (nm nc : Int) (w : World) : Calls Try.prog 8 #[.int .i64 nm, .int .i64 nc] w fun e w' => ∃ pv er, e = .returned (.tuple #[pv, er]) ∧
    Hid ((newOk nm nc = true → ∃ b, pv = .pointer (some ⟨b, 0, none⟩) ∧ er = .int .i64 0 ∧ PL (fun j => w.heap.size ≤ j) w' b (LM.new nm.toNat nc.toNat)) ∧ (newOk nm nc = false → pv = .pointer none ∧ er = .int .i64 1) ∧ Below w.heap.size w w') := by
  refine (new_any nm nc w).mono ?_
  rintro e w' ⟨h1, h2, h3⟩
  cases hok : newOk nm nc with
  | true =>
    obtain ⟨b, rfl, hL⟩ := h1 hok
    exact ⟨_, _, rfl, ⟨fun _ => ⟨b, rfl, rfl, hL⟩, fun e => by simp at e, h3⟩⟩
  | false =>
    have e := h2 hok
    subst e
    exact ⟨_, _, rfl, ⟨fun e => by simp at e, fun _ => ⟨rfl, rfl⟩, h3⟩⟩
/-- Read's way: k members' rows are told -/
structure RSt (w : World) (D : LM) (s : ByteArray) (b gB cB k : Nat) (S : ByteArray) (wr : World) : Prop where
  led : PLv (fun j => w.heap.size ≤ j) wr b ⟨D.nm, D.nc, fun m c => if m < k then D.B m c else 0, D.N⟩ gB cB
  rest : bl S = (bl s).drop (2 + 8 * D.nc * (1 + k))
  blw : Below w.heap.size w wr

end Go.Proofs.Ytllhpdohahoelaa
