/- Guards, plainly: what fails of balances, what operations make of a guard; that members without a flag pass all tests; what is spared; that greater limits let no more fail. No Go text.
  risk's small functions: the contracts of isBelowZero, exceeds, failed, one, hasPart, and of slices.ContainsFunc and Clone as they use them. -/
import Derived.Test.YtiehbbhjpcnbnaaGreatMAK
import Derived.Test.YtiehbbhjpcnbnaaGreatLI1
import Derived.Test.YtiehbbhjpcnbnaaGreatMAG
namespace Go.Proofs.YtiehbbhjpcnbnaaGreat
open Go.RowKit
set_option linter.unusedVariables false

/-- a member's limit -/
structure Lim where
  xs : List Int
  all : Int
def Lim.sh (L : Lim) (c : Nat) : Int := L.xs.getD c 0
/-- the sum of three tests -/
def bits (a b c : Bool) : Int := (if a then 1 else 0) + (if b then 2 else 0) + (if c then 4 else 0)
def exB (nc : Nat) (L : Lim) (d : Nat → Int) : Bool := (List.range nc).any fun c => decide (d c < -(L.sh c))
theorem exB_iff {nc : Nat} {L : Lim} {d : Nat → Int} : exB nc L d = true ↔ ∃ c, c < nc ∧ d c < -(L.sh c) := by unfold exB; simp
/-- what fails of balances -/
def failD (t : List Cur) (nc : Nat) (L : Lim) (d : Nat → Int) : Int :=
  if (bothM t nc d).2.2 = 0 then bits (decide ((bothM t nc d).1 < 0)) (exB nc L d) (decide (L.all < (bothM t nc d).2.1)) else 7
def failF (t : List Cur) (nc : Nat) (L : Lim) (f : Nat → Int) (m : Int) (ps : List Pst) : Int :=
  if knownC nc ps = true then (match goI m f ps with | none => 7 | some d => failD t nc L d) else 7
theorem failF_nil (t : List Cur) (nc : Nat) (L : Lim) (f : Nat → Int) (m : Int) : failF t nc L f m [] = failD t nc L f := rfl
theorem failF_go {t : List Cur} {nc : Nat} {L : Lim} {f d : Nat → Int} {m : Int} {ps : List Pst} (hk : knownC nc ps = true) (hg : goI m f ps = some d) : failF t nc L f m ps = failD t nc L d := by
  unfold failF; rw [if_pos hk, hg]
theorem failF_err {t : List Cur} {nc : Nat} {L : Lim} {f : Nat → Int} {m : Int} {ps : List Pst} (h : (ifM t nc f m ps).2.2 ≠ 0) : failF t nc L f m ps = 7 := by
  unfold failF
  split
  · rename_i hk
    cases hg : goI m f ps with
    | none => rfl
    | some d =>
      rw [ifM_known hk hg] at h
      exact if_neg h
  · rfl
theorem ifM_ok {t : List Cur} {nc : Nat} {f : Nat → Int} {m : Int} {ps : List Pst} (h : (ifM t nc f m ps).2.2 = 0) : ∃ d, knownC nc ps = true ∧ goI m f ps = some d ∧ ifM t nc f m ps = bothM t nc d ∧ (bothM t nc d).2.2 = 0 := by
  cases hk : knownC nc ps with
  | false => rw [ifM_not hk] at h; exact absurd h (by decide)
  | true =>
    cases hg : goI m f ps with
    | none => rw [ifM_over hk hg] at h; exact absurd h (by decide)
    | some d =>
      have e := ifM_known (t := t) hk hg
      rw [e] at h
      exact ⟨d, rfl, rfl, e, h⟩
theorem failD_zero {t : List Cur} {nc : Nat} {L : Lim} {d : Nat → Int} (h : failD t nc L d = 0) : (bothM t nc d).2.2 = 0 := by
  unfold failD at h
  split at h
  · assumption
  · exact absurd h (by decide)
theorem failF_zero {t : List Cur} {nc : Nat} {L : Lim} {f : Nat → Int} {m : Int} {ps : List Pst} (h : failF t nc L f m ps = 0) : ∃ d, goI m f ps = some d ∧ failD t nc L d = 0 := by
  unfold failF at h
  split at h
  · cases hg : goI m f ps with
    | none => rw [hg] at h; simp at h
    | some d => rw [hg] at h; exact ⟨d, rfl, h⟩
  · exact absurd h (by decide)
/-- no more tests are failed than there -/
def Sub (x y : Int) : Prop := ∃ a b c a' b' c' : Bool, x = bits a b c ∧ y = bits a' b' c' ∧ (a = true → a' = true) ∧ (b = true → b' = true) ∧ (c = true → c' = true)
theorem Sub.refl7 (x : Int) (h : ∃ a b c, x = bits a b c) : Sub x 7 := by
  obtain ⟨a, b, c, rfl⟩ := h
  exact ⟨a, b, c, true, true, true, rfl, rfl, fun _ => rfl, fun _ => rfl, fun _ => rfl⟩
theorem failD_bits (t : List Cur) (nc : Nat) (L : Lim) (d : Nat → Int) : ∃ a b c, failD t nc L d = bits a b c := by
  unfold failD
  split
  · exact ⟨_, _, _, rfl⟩
  · exact ⟨true, true, true, rfl⟩
theorem failF_bits (t : List Cur) (nc : Nat) (L : Lim) (f : Nat → Int) (m : Int) (ps : List Pst) : ∃ a b c, failF t nc L f m ps = bits a b c := by
  unfold failF
  split
  · split
    · exact ⟨true, true, true, rfl⟩
    · exact failD_bits _ _ _ _
  · exact ⟨true, true, true, rfl⟩
theorem Sub.zero {x : Int} (h : Sub x 0) : x = 0 := by
  obtain ⟨a, b, c, a', b', c', rfl, h2, h3, h4, h5⟩ := h
  revert h2 h3 h4 h5
  cases a <;> cases b <;> cases c <;> cases a' <;> cases b' <;> cases c' <;> decide

/-! a greater balance -/
theorem scale_mono {m n a b : Int} (hm : 0 ≤ m) (hmn : m ≤ n) (h : a ≤ b) : (if a < 0 then a * n else a * m) ≤ (if b < 0 then b * n else b * m) := by
  by_cases ha : a < 0
  · by_cases hb : b < 0
    · rw [if_pos ha, if_pos hb]; exact Int.mul_le_mul_of_nonneg_right h (by omega)
    · rw [if_pos ha, if_neg hb]
      have h1 : a * n ≤ 0 := Int.mul_nonpos_of_nonpos_of_nonneg (by omega) (by omega)
      have h2 : 0 ≤ b * m := Int.mul_nonneg (by omega) hm
      omega
  · rw [if_neg ha, if_neg (by omega)]; exact Int.mul_le_mul_of_nonneg_right h hm
theorem worthT_up (c : Cur) (ho : oobB c = false) {a b : Int} (h : a ≤ b) : worthT c a ≤ worthT c b := by
  obtain ⟨r0, r1, u0, u1⟩ := oob_no ho
  have p0 : 0 ≤ c.rate * (10000 - c.cut) := Int.mul_nonneg (by omega) (by omega)
  have p1 : c.rate * (10000 - c.cut) ≤ c.rate * (10000 + c.cut) := Int.mul_le_mul_of_nonneg_left (by omega) (by omega)
  have e : ∀ x, x * (c.rate * partOf c x) = (if x < 0 then x * (c.rate * (10000 + c.cut)) else x * (c.rate * (10000 - c.cut))) := fun x => by
    unfold partOf
    by_cases hx : x < 0
    · rw [if_pos hx, if_pos hx]
    · rw [if_neg hx, if_neg hx]
  unfold worthT muldiv
  simp only [Bool.false_eq_true, if_false]
  rw [e, e]
  exact Int.ediv_le_ediv (by decide) (scale_mono p0 p1 h)
theorem plainT_up (c : Cur) (ho : oobB c = false) {a b : Int} (h : a ≤ b) : plainT c a ≤ plainT c b := by
  obtain ⟨r0, r1, u0, u1⟩ := oob_no ho
  unfold plainT muldiv
  simp only [Bool.false_eq_true, if_false]
  exact Int.ediv_le_ediv (by decide) (Int.mul_le_mul_of_nonneg_right h (by omega))
theorem net_up {t : List Cur} {b d : Nat → Int} (h : ∀ i, b i ≤ d i) : ∀ n c r s, (∀ i, c ≤ i → i < c + n → oobB (cAt t i) = false) → r ≤ s → (netF t b n c r).2 = 0 → (netF t d n c s).2 = 0 → (netF t b n c r).1 ≤ (netF t d n c s).1
  | 0, c, r, s, _, hs, _, _ => hs
  | n + 1, c, r, s, ho, hs, h1, h2 => by
    rw [netF] at h1 h2 ⊢
    by_cases e1 : In64 (worthT (cAt t c) (b c)) ∧ In64 (r + worthT (cAt t c) (b c))
    · rw [if_pos e1] at h1
      by_cases e2 : In64 (worthT (cAt t c) (d c)) ∧ In64 (s + worthT (cAt t c) (d c))
      · rw [if_pos e2] at h2
        rw [netF, if_pos e1, if_pos e2]
        exact net_up h n (c + 1) _ _ (fun i h1 h2 => ho i (by omega) (by omega)) (by have := worthT_up (cAt t c) (ho c (by omega) (by omega)) (h c); omega) h1 h2
      · rw [if_neg e2] at h2; exact absurd h2 (by decide)
    · rw [if_neg e1] at h1; exact absurd h1 (by decide)
theorem short_up {t : List Cur} {b d : Nat → Int} (h : ∀ i, b i ≤ d i) : ∀ n c r s, (∀ i, c ≤ i → i < c + n → oobB (cAt t i) = false) → s ≤ r → (shortF t b n c r).2 = 0 → (shortF t d n c s).2 = 0 → (shortF t d n c s).1 ≤ (shortF t b n c r).1
  | 0, c, r, s, _, hs, _, _ => hs
  | n + 1, c, r, s, ho, hs, h1, h2 => by
    have hr : ∀ i, c + 1 ≤ i → i < c + 1 + n → oobB (cAt t i) = false := fun i h1 h2 => ho i (by omega) (by omega)
    have hc := h c
    have hp := plainT_up (cAt t c) (ho c (by omega) (by omega)) hc
    rw [shortF] at h1 h2
    rw [shortF, shortF]
    by_cases hb : 0 ≤ b c
    · rw [if_pos hb] at h1 ⊢
      rw [if_pos (by omega : 0 ≤ d c)] at h2 ⊢
      exact short_up h n (c + 1) r s hr hs h1 h2
    · rw [if_neg hb] at h1 ⊢
      by_cases e1 : In64 (plainT (cAt t c) (b c)) ∧ In64 (-plainT (cAt t c) (b c)) ∧ In64 (r + -plainT (cAt t c) (b c))
      · rw [if_pos e1] at h1 ⊢
        by_cases hd : 0 ≤ d c
        · rw [if_pos hd] at h2 ⊢
          have hn := plain_neg (ho c (by omega) (by omega)) hb
          exact short_up h n (c + 1) _ s hr (by omega) h1 h2
        · rw [if_neg hd] at h2 ⊢
          by_cases e2 : In64 (plainT (cAt t c) (d c)) ∧ In64 (-plainT (cAt t c) (d c)) ∧ In64 (s + -plainT (cAt t c) (d c))
          · rw [if_pos e2] at h2 ⊢
            exact short_up h n (c + 1) _ _ hr (by omega) h1 h2
          · rw [if_neg e2] at h2; exact absurd h2 (by decide)
      · rw [if_neg e1] at h1; exact absurd h1 (by decide)
theorem both_ok {t : List Cur} {nc : Nat} {b : Nat → Int} (h : (bothM t nc b).2.2 = 0) : (netF t b nc 0 0).2 = 0 ∧ (shortF t b nc 0 0).2 = 0 ∧ (bothM t nc b).1 = (netF t b nc 0 0).1 ∧ (bothM t nc b).2.1 = (shortF t b nc 0 0).1 := by
  unfold bothM at h ⊢
  split at h
  · rename_i e; rw [if_pos e]; exact ⟨e.1, e.2, rfl, rfl⟩
  · exact absurd h (by decide)
/-- greater balances, and greater limits, let no more tests be failed -/
theorem fail_sub {t : List Cur} {nc : Nat} {L K : Lim} {b d : Nat → Int} (ho : ∀ i, i < nc → oobB (cAt t i) = false) (hL : ∀ c, L.sh c ≤ K.sh c) (hA : L.all ≤ K.all) (h : ∀ i, b i ≤ d i) (hok : (bothM t nc b).2.2 = 0 → (bothM t nc d).2.2 = 0) : Sub (failD t nc K d) (failD t nc L b) := by
  by_cases h0 : (bothM t nc b).2.2 = 0
  · have h1 := hok h0
    obtain ⟨n1, s1, en, es⟩ := both_ok h0
    obtain ⟨n2, s2, dn, ds⟩ := both_ok h1
    have hn := net_up h nc 0 0 0 (fun i _ hi => ho i (by omega)) (Int.le_refl _) n1 n2
    have hs := short_up h nc 0 0 0 (fun i _ hi => ho i (by omega)) (Int.le_refl _) s1 s2
    unfold failD
    rw [if_pos h0, if_pos h1]
    refine ⟨_, _, _, _, _, _, rfl, rfl, fun e => ?_, fun e => ?_, fun e => ?_⟩
    · simp only [decide_eq_true_eq] at e ⊢; omega
    · obtain ⟨c, hc, e⟩ := exB_iff.1 e
      exact exB_iff.2 ⟨c, hc, by have := hL c; have := h c; omega⟩
    · simp only [decide_eq_true_eq] at e ⊢; omega
  · have e : failD t nc L b = 7 := if_neg h0
    rw [e]
    exact Sub.refl7 _ (failD_bits _ _ _ _)
theorem failF_sub {t : List Cur} {nc : Nat} {L K : Lim} {f : Nat → Int} {m : Int} {ps : List Pst} (ho : ∀ i, i < nc → oobB (cAt t i) = false) (hL : ∀ c, L.sh c ≤ K.sh c) (hA : L.all ≤ K.all) : Sub (failF t nc K f m ps) (failF t nc L f m ps) := by
  unfold failF
  split
  · split
    · exact Sub.refl7 _ ⟨true, true, true, rfl⟩
    · exact fail_sub ho hL hA (fun i => Int.le_refl _) fun h => h
  · exact Sub.refl7 _ ⟨true, true, true, rfl⟩

/-! a guard -/
structure GM where
  l : LM
  cs : List Cur
  L : Nat → Lim
  fl : Nat → Bool
def GM.fails (g : GM) (m : Int) (ps : List Pst) : Int := if 0 ≤ m ∧ m < g.l.nm then failF g.cs g.l.nc (g.L m.toNat) (g.l.row m.toNat) m ps else 7
def GM.flagged (g : GM) (m : Int) : Bool := decide (0 ≤ m) && decide (m < g.l.nm) && g.fl m.toNat
def GM.judge (g : GM) : GM := ⟨g.l, g.cs, g.L, fun k => decide (g.fails (k : Int) [] ≠ 0)⟩
def GM.x (g : GM) : WM := WM.new g.cs g.l
def GM.inE (g : GM) (m c a : Int) : Int := (g.x.iff m [⟨m, c, a⟩]).2.2
def GM.after (g : GM) (l : LM) : GM := ⟨l, g.cs, g.L, g.fl⟩
def GM.inn (g : GM) (m c a : Int) : Int × GM :=
  if a < 1 then (1, g) else if g.inE m c a ≠ 0 then (g.inE m c a, g) else if (g.l.inn m c a).1 ≠ 0 then ((g.l.inn m c a).1, g)
  else (0, ⟨(g.l.inn m c a).2, g.cs, g.L, if (g.after (g.l.inn m c a).2).fails m [] = 0 then upd g.fl m.toNat false else g.fl⟩)
def GM.out (g : GM) (m c a : Int) : Int × GM :=
  if ¬ (g.l.has m c = true ∧ 1 ≤ a) then (1, g) else if g.flagged m = true ∨ g.fails m [⟨m, c, -a⟩] ≠ 0 then (10, g) else ((g.l.out m c a).1, g.after (g.l.out m c a).2)
def partB (m : Nat) (ps : List Pst) : Bool := ps.any fun q => decide (q.m = (m : Int))
def GM.bad (g : GM) (ps : List Pst) (k : Nat) : Bool := partB k ps && (g.flagged (k : Int) || decide (g.fails (k : Int) ps ≠ 0))
def GM.ends (g : GM) (ps : List Pst) : Bool := (List.range g.l.nm).any (g.bad ps)
def GM.book (g : GM) (ps : List Pst) : Int × GM :=
  if g.ends ps = true then (if (g.l.post ps).1 ≠ 0 then (g.l.post ps).1 else 10, g) else ((g.l.post ps).1, g.after (g.l.post ps).2)
def GM.take (g : GM) (ps : List Pst) : Int × GM := ((g.l.post ps).1, if (g.l.post ps).1 = 0 then (g.after (g.l.post ps).2).judge else g)
def GM.swp (g : GM) (m q v a b : Int) : Int × GM := ((g.l.swap m q v a b).1, if (g.l.swap m q v a b).1 = 0 then (g.after (g.l.swap m q v a b).2).judge else g)
noncomputable def GM.rate (g : GM) (c a : Int) : Int × GM := ((g.x.rate c a).1, if (g.x.rate c a).1 = 0 then (⟨g.l, (g.x.rate c a).2.cs, g.L, g.fl⟩ : GM).judge else g)
noncomputable def GM.cutt (g : GM) (c a : Int) : Int × GM := ((g.x.cutt c a).1, if (g.x.cutt c a).1 = 0 then (⟨g.l, (g.x.cutt c a).2.cs, g.L, g.fl⟩ : GM).judge else g)

/-- a guard as there are -/
structure GM.Ok (g : GM) : Prop where
  good : g.l.Good
  nc : g.cs.length = g.l.nc
  chk : chkT g.cs = 0
def GM.Inv (g : GM) : Prop := ∀ k : Nat, k < g.l.nm → g.fl k = false → g.fails (k : Int) [] = 0
theorem GM.Ok.oob {g : GM} (h : g.Ok) : ∀ i, i < g.l.nc → oobB (cAt g.cs i) = false := fun i hi => (chk_ok h.chk).2.2.1 i (by rw [h.nc]; exact hi)
theorem fails_nat {g : GM} {k : Nat} (hk : k < g.l.nm) (ps : List Pst) : g.fails (k : Int) ps = failF g.cs g.l.nc (g.L k) (g.l.row k) (k : Int) ps := by
  unfold GM.fails; rw [if_pos (by omega), Int.toNat_natCast]
theorem flagged_nat {g : GM} {k : Nat} (hk : k < g.l.nm) : g.flagged (k : Int) = g.fl k := by
  unfold GM.flagged; rw [Int.toNat_natCast]
  have h1 : decide ((0 : Int) ≤ (k : Int)) = true := by simp
  have h2 : decide ((k : Int) < (g.l.nm : Int)) = true := by simpa using hk
  rw [h1, h2]; rfl
theorem judge_inv (g : GM) : g.judge.Inv := fun k hk h => by
  have e : g.judge.fails (k : Int) [] = g.fails (k : Int) [] := rfl
  rw [e]
  have h' : decide (g.fails (k : Int) [] ≠ 0) = false := h
  simpa using h'
theorem row_B {l : LM} (h : l.Good) {k : Nat} (hk : k < l.nm) : l.row k = l.B k := by
  funext c
  unfold LM.row LM.get
  by_cases hc : c < l.nc
  · rw [if_pos (LM.has_iff.2 ⟨by omega, by omega, by omega, by omega⟩), Int.toNat_natCast, Int.toNat_natCast]
  · rw [if_neg (fun e => by have := LM.has_iff.1 e; omega), h.1.bz k c (by omega)]
theorem row_out {l : LM} {k : Nat} (hk : ¬ k < l.nm) : l.row k = fun _ => 0 := by
  funext c
  unfold LM.row LM.get
  rw [if_neg (fun e => by have := LM.has_iff.1 e; omega)]
/-- one posting after the other: what a member has then -/
theorem goP_goI (k : Nat) : ∀ (ps : List Pst) (B C : Nat → Nat → Int), (∀ q ∈ ps, 0 ≤ q.m) → goP B ps = some C → goI (k : Int) (B k) ps = some (C k)
  | [], B, C, _, h => by injection h with h; rw [← h]; rfl
  | q :: ps, B, C, hq, h => by
    rw [goP] at h
    have h0 := hq q (List.mem_cons_self ..)
    split at h
    · rename_i hi
      have ih := goP_goI k ps _ C (fun y hy => hq y (List.mem_cons_of_mem _ hy)) h
      rw [goI]
      by_cases e : q.m = (k : Int)
      · have e2 : q.m.toNat = k := by omega
        rw [e2] at ih hi
        rw [if_pos e, if_pos hi, ← ih]
        congr 1
        funext c
        unfold upd upd2
        by_cases ec : c = q.c.toNat
        · rw [if_pos ec, if_pos ⟨rfl, ec⟩]
        · rw [if_neg ec, if_neg (fun x => ec x.2)]
      · rw [if_neg e, ← ih]
        congr 1
        funext c
        unfold upd2
        rw [if_neg (fun x => e (by omega))]
    · exact absurd h (by simp)
theorem goI_none (m : Int) : ∀ (ps : List Pst) (f : Nat → Int), (∀ q ∈ ps, q.m ≠ m) → goI m f ps = some f
  | [], f, _ => rfl
  | q :: ps, f, h => by
    rw [goI, if_neg (h q (List.mem_cons_self ..))]
    exact goI_none m ps f fun y hy => h y (List.mem_cons_of_mem _ hy)
theorem part_no {k : Nat} {ps : List Pst} (h : partB k ps = false) : ∀ q ∈ ps, q.m ≠ (k : Int) := fun q hq e => by
  unfold partB at h
  rw [List.any_eq_false] at h
  exact h q hq (by simpa using e)
/-- a batch that was posted -/
theorem post_ok {l : LM} (h : l.Good) {ps : List Pst} (h0 : (l.post ps).1 = 0) : (∀ q ∈ ps, 0 ≤ q.m ∧ q.m < l.nm) ∧ knownC l.nc ps = true ∧ ∀ k, k < l.nm → goI (k : Int) (l.row k) ps = some ((l.post ps).2.row k) := by
  have hg := post_good h ps
  unfold LM.post at h0 hg ⊢
  split at h0
  · rename_i hk
    have hm : ∀ q ∈ ps, 0 ≤ q.m ∧ q.m < l.nm ∧ 0 ≤ q.c ∧ q.c < l.nc := fun q hq => LM.has_iff.1 (List.all_eq_true.1 hk q hq)
    split at h0
    · rename_i he
      split at h0
      · rename_i B hB
        rw [if_pos hk, if_pos he, hB] at hg
        dsimp only at hg ⊢
        rw [if_pos hk, if_pos he]
        try rw [hB]
        refine ⟨fun q hq => ⟨(hm q hq).1, (hm q hq).2.1⟩, known_yes fun q hq => (hm q hq).2.2, fun k hkn => ?_⟩
        rw [row_B h hkn, row_B hg.1 hkn]
        exact goP_goI k ps _ _ (fun q hq => (hm q hq).1) hB
      · simp at h0
    · simp at h0
  · simp at h0
/-- paid in -/
theorem inn_ok {l : LM} (h : l.Good) {m c a : Int} (h0 : (l.inn m c a).1 = 0) : ∃ i j : Nat, m = i ∧ c = j ∧ i < l.nm ∧ j < l.nc ∧ 1 ≤ a ∧ In64 (l.row i j + a) ∧ (l.inn m c a).2.row i = upd (l.row i) j (l.row i j + a) := by
  have hg := inn_good h m c a
  unfold LM.inn at h0 hg ⊢
  split at h0
  · rename_i hk
    obtain ⟨i, j, rfl, rfl, hi, hj⟩ := LM.has_nat hk.1
    split at h0
    · rename_i he
      rw [if_pos hk, if_pos he] at hg
      rw [if_pos hk, if_pos he]
      rw [Int.toNat_natCast, Int.toNat_natCast] at he hg ⊢
      refine ⟨i, j, rfl, rfl, hi, hj, hk.2, by rw [row_B h hi]; exact he.1, ?_⟩
      rw [row_B hg.1 hi, row_B h hi]
      funext d
      show upd2 l.B i j _ i d = _
      unfold upd upd2
      by_cases e : d = j
      · rw [if_pos e, if_pos ⟨rfl, e⟩]
      · rw [if_neg e, if_neg (fun x => e x.2)]
    · simp at h0
  · simp at h0
theorem out_ok {l : LM} (h : l.Good) {m c a : Int} (h0 : (l.out m c a).1 = 0) : ∃ i j : Nat, m = i ∧ c = j ∧ i < l.nm ∧ j < l.nc ∧ (l.out m c a).2.row i = upd (l.row i) j (l.row i j + -a) := by
  have hg := out_good h m c a
  unfold LM.out at h0 hg ⊢
  split at h0
  · rename_i hk
    obtain ⟨i, j, rfl, rfl, hi, hj⟩ := LM.has_nat hk.1
    split at h0
    · simp at h0
    · rename_i he
      rw [if_pos hk, if_neg he] at hg
      rw [if_pos hk, if_neg he]
      rw [Int.toNat_natCast, Int.toNat_natCast] at hg ⊢
      refine ⟨i, j, rfl, rfl, hi, hj, ?_⟩
      rw [row_B hg.1 hi, row_B h hi]
      funext d
      show upd2 l.B i j _ i d = _
      unfold upd upd2
      by_cases e : d = j
      · rw [if_pos e, if_pos ⟨rfl, e⟩]; omega
      · rw [if_neg e, if_neg (fun x => e x.2)]
  · simp at h0
theorem row_like {l k : LM} (h : l.like k) {j : Nat} (hB : ∀ c, k.B j c = l.B j c) : k.row j = l.row j := by
  funext c
  unfold LM.row LM.get LM.has
  rw [h.1, h.2, Int.toNat_natCast, Int.toNat_natCast, hB]
theorem inn_rows {l : LM} (m c a : Int) {j : Nat} (hj : (j : Int) ≠ m) : (l.inn m c a).2.row j = l.row j := by
  unfold LM.inn
  split
  · rename_i h1
    split
    · refine row_like (l := l) (k := ⟨l.nm, l.nc, upd2 l.B m.toNat c.toNat (l.B m.toNat c.toNat + a), upd l.N c.toNat (l.N c.toNat + a)⟩) ⟨rfl, rfl⟩ fun d => ?_
      show upd2 l.B m.toNat c.toNat _ j d = _
      rw [upd2_other]
      rintro ⟨e, _⟩
      have := LM.has_iff.1 h1.1
      omega
    · rfl
  · rfl
theorem out_rows {l : LM} (m c a : Int) {j : Nat} (hj : (j : Int) ≠ m) : (l.out m c a).2.row j = l.row j := by
  unfold LM.out
  split
  · rename_i h1
    split
    · rfl
    · refine row_like (l := l) (k := ⟨l.nm, l.nc, upd2 l.B m.toNat c.toNat (l.B m.toNat c.toNat - a), upd l.N c.toNat (l.N c.toNat - a)⟩) ⟨rfl, rfl⟩ fun d => ?_
      show upd2 l.B m.toNat c.toNat _ j d = _
      rw [upd2_other]
      rintro ⟨e, _⟩
      have := LM.has_iff.1 h1.1
      omega
  · rfl
/-- a batch that was posted changes none that has no part -/
theorem post_rows {l : LM} (h : l.Good) {ps : List Pst} {k : Nat} (hp : partB k ps = false) : (l.post ps).2.row k = l.row k := by
  by_cases h0 : (l.post ps).1 = 0
  · by_cases hk : k < l.nm
    · have h1 := (post_ok h h0).2.2 k hk
      rw [goI_none _ _ _ (part_no hp)] at h1
      injection h1 with h1
      exact h1.symm
    · rw [row_out hk, row_out (by rw [(post_good h ps).2.1.1]; exact hk)]
  · rw [(post_good h ps).2.2 h0]

/-- an operation -/
structure GOp where
  Do : Int
  m : Int
  c : Int
  v : Int
  a : Int
  b : Int
  p : Option Addr
  len : Nat
  cap : Nat
  ps : List Pst
noncomputable def opG (g : GM) (o : GOp) : Int × GM :=
  if o.Do = 0 then g.inn o.m o.c o.a else if o.Do = 1 then g.out o.m o.c o.a else if o.Do = 2 then g.rate o.c o.a else if o.Do = 3 then g.cutt o.c o.a
  else if o.Do = 5 then g.take o.ps else if o.Do = 6 then g.swp o.m o.c o.v o.a o.b else g.book o.ps
theorem GM.Ok.judge {g : GM} (h : g.Ok) : g.judge.Ok := ⟨h.good, h.nc, h.chk⟩
theorem GM.Ok.after {g : GM} (h : g.Ok) {l : LM} (hg : l.Good) (hl : g.l.like l) : (g.after l).Ok := ⟨hg, by show g.cs.length = l.nc; rw [hl.2]; exact h.nc, h.chk⟩
theorem by_chk {x : WM} {cs : List Cur} (hc : chkT x.cs = 0) : chkT (x.by cs).2.cs = 0 ∧ (cs.length = x.cs.length → (x.by cs).2.cs.length = x.cs.length) := by
  unfold WM.by
  split
  · rename_i h; exact ⟨h, fun e => e⟩
  · exact ⟨hc, fun _ => rfl⟩
theorem rate_chk {x : WM} (hc : chkT x.cs = 0) (c a : Int) : chkT (x.rate c a).2.cs = 0 ∧ (x.rate c a).2.cs.length = x.cs.length := by
  unfold WM.rate; split
  · exact ⟨(by_chk hc).1, (by_chk hc).2 (List.length_set ..)⟩
  · exact ⟨hc, rfl⟩
theorem cutt_chk {x : WM} (hc : chkT x.cs = 0) (c a : Int) : chkT (x.cutt c a).2.cs = 0 ∧ (x.cutt c a).2.cs.length = x.cs.length := by
  unfold WM.cutt; split
  · exact ⟨(by_chk hc).1, (by_chk hc).2 (List.length_set ..)⟩
  · exact ⟨hc, rfl⟩
theorem fails_congr {g h : GM} {k : Nat} (hk : k < g.l.nm) (h1 : g.l.like h.l) (h2 : h.cs = g.cs) (h3 : h.L = g.L) (h4 : h.l.row k = g.l.row k) (ps : List Pst) : h.fails (k : Int) ps = g.fails (k : Int) ps := by
  rw [fails_nat hk, fails_nat (by rw [h1.1]; exact hk), h2, h3, h4, h1.2]
/-- a pay-in: what fails then, fails before -/
theorem inn_sub {g : GM} (h : g.Ok) {m c a : Int} (he : g.inE m c a = 0) (h0 : (g.l.inn m c a).1 = 0) : Sub ((g.after (g.l.inn m c a).2).fails m []) (g.fails m []) ∧ ((g.after (g.l.inn m c a).2).fails m [] = g.fails m [⟨m, c, a⟩]) := by
  obtain ⟨i, j, rfl, rfl, hi, hj, ha, hin, hrow⟩ := inn_ok h.good h0
  have hl := (inn_good h.good (i : Int) (j : Int) a).2.1
  have ei : (g.after (g.l.inn (i : Int) (j : Int) a).2).fails (i : Int) [] = failD g.cs g.l.nc (g.L i) (upd (g.l.row i) j (g.l.row i j + a)) := by
    rw [fails_nat (g := g.after _) (by show i < (g.l.inn (i : Int) (j : Int) a).2.nm; rw [hl.1]; exact hi)]
    show failF g.cs (g.l.inn (i : Int) (j : Int) a).2.nc (g.L i) ((g.l.inn (i : Int) (j : Int) a).2.row i) (i : Int) [] = _
    rw [hrow, hl.2]; rfl
  have hk : knownC g.l.nc [⟨(i : Int), (j : Int), a⟩] = true := known_yes fun q hq => by obtain rfl := List.mem_singleton.1 hq; show 0 ≤ (j : Int) ∧ (j : Int) < _; omega
  have hgo : goI (i : Int) (g.l.row i) [⟨(i : Int), (j : Int), a⟩] = some (upd (g.l.row i) j (g.l.row i j + a)) := by
    rw [goI, if_pos rfl, Int.toNat_natCast, if_pos hin]; rfl
  have hx : g.x.has (i : Int) = true := by unfold WM.has GM.x WM.new; simp; exact hi
  have hb : (bothM g.cs g.l.nc (upd (g.l.row i) j (g.l.row i j + a))).2.2 = 0 := by
    unfold GM.inE WM.iff at he
    rw [hx, if_pos rfl, Int.toNat_natCast] at he
    have e2 : g.x.cs.length = g.l.nc := h.nc
    have e3 : g.x.S i = g.l.row i := rfl
    rw [e2, e3, ifM_known hk hgo] at he
    exact he
  rw [ei]
  refine ⟨?_, ?_⟩
  · rw [fails_nat hi, failF_nil]
    refine fail_sub h.oob (fun _ => Int.le_refl _) (Int.le_refl _) (fun d => ?_) fun _ => hb
    unfold upd
    split
    · rename_i e; subst e; omega
    · exact Int.le_refl _
  · rw [fails_nat hi, failF_go hk hgo]

structure OpP (g : GM) (o : GOp) (r : Int × GM) : Prop where
  ok : r.2.Ok
  like : g.l.like r.2.l
  lim : r.2.L = g.L
  inv : g.Inv → r.2.Inv
  risk : o.Do = 0 → r.1 ≠ 10
  flag : ∀ k, k < g.l.nm → r.2.fl k = true → g.fl k = false → o.Do = 2 ∨ o.Do = 3 ∨ o.Do = 5 ∨ o.Do = 6
  err : r.1 ≠ 0 → r.2.l = g.l
  spare : ∀ k, k < g.l.nm → g.fl k = true → o.Do = 0 ∨ o.Do = 5 ∨ o.Do = 6 ∨ r.2.l.row k = g.l.row k
  more : ∀ k, k < g.l.nm → o.Do = 0 → ∀ c, g.l.row k c ≤ r.2.l.row k c
theorem like_refl (l : LM) : l.like l := ⟨rfl, rfl⟩
theorem OpP.none {g : GM} (h : g.Ok) (o : GOp) (n : Int) (hn : o.Do = 0 → n ≠ 10) : OpP g o (n, g) :=
  ⟨h, like_refl _, rfl, fun h => h, hn, fun k _ h1 h2 => absurd (h1.symm.trans h2) (by decide), fun _ => rfl, fun k _ _ => .inr (.inr (.inr rfl)), fun k _ _ c => Int.le_refl _⟩
theorem inE_ne (g : GM) (m c a : Int) : g.inE m c a ≠ 10 := by
  unfold GM.inE WM.iff
  split
  · unfold ifM
    split
    · split
      · simp
      · unfold bothM; split <;> simp
    · simp
  · simp
theorem innE_ne (l : LM) (m c a : Int) : (l.inn m c a).1 ≠ 10 := by
  unfold LM.inn
  split
  · split <;> simp
  · simp
theorem inn_op {g : GM} (h : g.Ok) (o : GOp) (hd : o.Do = 0) : OpP g o (g.inn o.m o.c o.a) := by
  unfold GM.inn
  split
  · exact OpP.none h o _ fun _ => by decide
  split
  · exact OpP.none h o _ fun _ => inE_ne _ _ _ _
  split
  · exact OpP.none h o _ fun _ => innE_ne _ _ _ _
  rename_i h1 h2 h3
  have he : g.inE o.m o.c o.a = 0 := by omega
  have h0 : (g.l.inn o.m o.c o.a).1 = 0 := by omega
  have hg := inn_good h.good o.m o.c o.a
  obtain ⟨s1, s2⟩ := inn_sub h he h0
  obtain ⟨i, j, em, ec, hi, hj, ha, hin, hrow⟩ := inn_ok h.good h0
  generalize hr : g.l.inn o.m o.c o.a = r at *
  have hok := h.after hg.1 hg.2.1
  refine ⟨⟨hok.good, hok.nc, hok.chk⟩, hg.2.1, rfl, fun hI k hk hf => ?_, fun _ => by simp, fun k hk h1 h2 => ?_, fun e => absurd rfl e, ?_, ?_⟩
  · have hk' : k < g.l.nm := by rw [← hg.2.1.1]; exact hk
    show (g.after r.2).fails (k : Int) [] = 0
    by_cases e : (k : Int) = o.m
    · rw [e]
      by_cases hz : (g.after r.2).fails o.m [] = 0
      · exact hz
      · have hf' : (if (g.after r.2).fails o.m [] = 0 then upd g.fl o.m.toNat false else g.fl) k = false := hf
        rw [if_neg hz] at hf'
        have := hI k hk' hf'
        rw [e] at this
        rw [this] at s1
        exact s1.zero
    · have hf' : (if (g.after r.2).fails o.m [] = 0 then upd g.fl o.m.toNat false else g.fl) k = false := hf
      have hfl : g.fl k = false := by
        split at hf'
        · rwa [upd_other _ _ (by omega)] at hf'
        · exact hf'
      rw [fails_congr (h := g.after r.2) hk' hg.2.1 rfl rfl (by show r.2.row k = _; rw [← hr]; exact inn_rows _ _ _ e)]
      exact hI k hk' hfl
  · exfalso
    have h1' : (if (g.after r.2).fails o.m [] = 0 then upd g.fl o.m.toNat false else g.fl) k = true := h1
    split at h1'
    · unfold upd at h1'
      split at h1'
      · exact absurd h1' (by decide)
      · rw [h2] at h1'; exact absurd h1' (by decide)
    · rw [h2] at h1'; exact absurd h1' (by decide)
  · exact fun k hk hf => .inl hd
  · intro k hk _ c
    show g.l.row k c ≤ r.2.row k c
    by_cases e : (k : Int) = o.m
    · have : k = i := by omega
      subst this
      rw [hrow]
      unfold upd
      split
      · rename_i e2; subst e2; omega
      · exact Int.le_refl _
    · rw [← hr, inn_rows _ _ _ e]; exact Int.le_refl _

theorem out_op {g : GM} (h : g.Ok) (o : GOp) (hd : o.Do = 1) : OpP g o (g.out o.m o.c o.a) := by
  unfold GM.out
  split
  · exact OpP.none h o _ fun e => by omega
  split
  · exact OpP.none h o _ fun e => by omega
  rename_i h1 h2
  have hg := out_good h.good o.m o.c o.a
  by_cases h0 : (g.l.out o.m o.c o.a).1 = 0
  · obtain ⟨i, j, em, ec, hi, hj, hrow⟩ := out_ok h.good h0
    have hfl : g.fl i = false := by
      cases e : g.fl i with
      | false => rfl
      | true => exact absurd (.inl (by rw [em, flagged_nat hi]; exact e)) h2
    have hz : g.fails o.m [⟨o.m, o.c, -o.a⟩] = 0 := by
      by_cases e : g.fails o.m [⟨o.m, o.c, -o.a⟩] = 0
      · exact e
      · exact absurd (.inr e) h2
    generalize hr : g.l.out o.m o.c o.a = r at *
    have hok := h.after hg.1 hg.2.1
    refine ⟨hok, hg.2.1, rfl, fun hI k hk hf => ?_, fun e => by omega, fun k hk h1 h2 => absurd (h1.symm.trans h2) (by decide), fun e => absurd h0 e, fun k hk hf => ?_, fun k hk e => by omega⟩
    · have hk' : k < g.l.nm := by rw [← hg.2.1.1]; exact hk
      by_cases e : (k : Int) = o.m
      · have : k = i := by omega
        subst this
        rw [em, fails_nat hi] at hz
        obtain ⟨d, hgo, hd⟩ := failF_zero hz
        rw [fails_nat (g := g.after r.2) hk, failF_nil]
        show failD g.cs r.2.nc (g.L k) (r.2.row k) = 0
        rw [hrow, hg.2.1.2]
        rw [goI, if_pos rfl] at hgo
        split at hgo
        · rw [ec, Int.toNat_natCast] at hgo
          injection hgo with hgo
          rw [hgo]
          exact hd
        · exact absurd hgo (by simp)
      · rw [fails_congr (h := g.after r.2) hk' hg.2.1 rfl rfl (by show r.2.row k = _; rw [← hr]; exact out_rows _ _ _ e)]
        exact hI k hk' hf
    · by_cases e : (k : Int) = o.m
      · have : k = i := by omega
        subst this
        rw [hfl] at hf
        exact absurd hf (by decide)
      · exact .inr (.inr (.inr (by show r.2.row k = _; rw [← hr]; exact out_rows _ _ _ e)))
  · have e := hg.2.2 h0
    have e2 : g.after (g.l.out o.m o.c o.a).2 = g := by rw [e]; rfl
    rw [e2]
    exact OpP.none h o _ fun e => by omega
theorem book_op {g : GM} (h : g.Ok) (o : GOp) (h0 : o.Do ≠ 0) : OpP g o (g.book o.ps) := by
  unfold GM.book
  split
  · exact OpP.none h o _ fun e => absurd e h0
  rename_i he
  have hg := post_good h.good o.ps
  by_cases hz : (g.l.post o.ps).1 = 0
  · obtain ⟨hm, hkn, hgo⟩ := post_ok h.good hz
    have hbad : ∀ k, k < g.l.nm → partB k o.ps = true → g.fl k = false ∧ g.fails (k : Int) o.ps = 0 := fun k hk hp => by
      have hb : g.bad o.ps k = false := by
        cases e : g.bad o.ps k with
        | false => rfl
        | true => exact absurd (List.any_eq_true.2 ⟨k, List.mem_range.2 hk, e⟩) he
      unfold GM.bad at hb
      rw [hp, flagged_nat hk] at hb
      simp at hb
      exact hb
    have hrows := fun k => post_rows h.good (ps := o.ps) (k := k)
    generalize hr : g.l.post o.ps = r at *
    refine ⟨h.after hg.1 hg.2.1, hg.2.1, rfl, fun hI k hk hf => ?_, fun e => absurd e h0, fun k hk h1 h2 => absurd (h1.symm.trans h2) (by decide), fun e => absurd hz e, fun k hk hf => ?_, fun k hk e => absurd e h0⟩
    · have hk' : k < g.l.nm := by rw [← hg.2.1.1]; exact hk
      cases hp : partB k o.ps with
      | true =>
        obtain ⟨_, h2⟩ := hbad k hk' hp
        rw [fails_nat hk', failF_go hkn (hgo k hk')] at h2
        rw [fails_nat (g := g.after r.2) hk, failF_nil]
        show failD g.cs r.2.nc (g.L k) (r.2.row k) = 0
        rw [hg.2.1.2]
        exact h2
      | false =>
        rw [fails_congr (h := g.after r.2) hk' hg.2.1 rfl rfl (hrows k hp)]
        exact hI k hk' hf
    · cases hp : partB k o.ps with
      | true =>
        rw [(hbad k hk hp).1] at hf
        exact absurd hf (by decide)
      | false => exact .inr (.inr (.inr (hrows k hp)))
  · have e := hg.2.2 hz
    have e2 : g.after (g.l.post o.ps).2 = g := by rw [e]; rfl
    rw [e2]
    exact OpP.none h o _ fun e => absurd e h0
theorem take_op {g : GM} (h : g.Ok) (o : GOp) (hd : o.Do = 5) : OpP g o (g.take o.ps) := by
  unfold GM.take
  have hg := post_good h.good o.ps
  by_cases hz : (g.l.post o.ps).1 = 0
  · rw [if_pos hz]
    exact ⟨(h.after hg.1 hg.2.1).judge, hg.2.1, rfl, fun _ => judge_inv _, fun e => by omega, fun _ _ _ _ => .inr (.inr (.inl hd)), fun e => absurd hz e, fun _ _ _ => .inr (.inl hd), fun _ _ e => by omega⟩
  · rw [if_neg hz]
    exact OpP.none h o _ fun e => by omega
theorem swp_op {g : GM} (h : g.Ok) (o : GOp) (hd : o.Do = 6) : OpP g o (g.swp o.m o.c o.v o.a o.b) := by
  unfold GM.swp
  have hg := swap_good h.good o.m o.c o.v o.a o.b
  by_cases hz : (g.l.swap o.m o.c o.v o.a o.b).1 = 0
  · rw [if_pos hz]
    exact ⟨(h.after hg.1 hg.2.1).judge, hg.2.1, rfl, fun _ => judge_inv _, fun e => by omega, fun _ _ _ _ => .inr (.inr (.inr hd)), fun e => absurd hz e, fun _ _ _ => .inr (.inr (.inl hd)), fun _ _ e => by omega⟩
  · rw [if_neg hz]
    exact OpP.none h o _ fun e => by omega
theorem rate_op {g : GM} (h : g.Ok) (o : GOp) (hd : o.Do = 2) : OpP g o (g.rate o.c o.a) := by
  unfold GM.rate
  have hg := rate_chk (x := g.x) h.chk o.c o.a
  by_cases hz : (g.x.rate o.c o.a).1 = 0
  · rw [if_pos hz]
    exact ⟨⟨h.good, hg.2.trans h.nc, hg.1⟩, like_refl _, rfl, fun _ => judge_inv _, fun e => by omega, fun _ _ _ _ => .inl hd, fun e => absurd hz e, fun _ _ _ => .inr (.inr (.inr rfl)), fun _ _ e => by omega⟩
  · rw [if_neg hz]
    exact OpP.none h o _ fun e => by omega
theorem cutt_op {g : GM} (h : g.Ok) (o : GOp) (hd : o.Do = 3) : OpP g o (g.cutt o.c o.a) := by
  unfold GM.cutt
  have hg := cutt_chk (x := g.x) h.chk o.c o.a
  by_cases hz : (g.x.cutt o.c o.a).1 = 0
  · rw [if_pos hz]
    exact ⟨⟨h.good, hg.2.trans h.nc, hg.1⟩, like_refl _, rfl, fun _ => judge_inv _, fun e => by omega, fun _ _ _ _ => .inr (.inl hd), fun e => absurd hz e, fun _ _ _ => .inr (.inr (.inr rfl)), fun _ _ e => by omega⟩
  · rw [if_neg hz]
    exact OpP.none h o _ fun e => by omega
theorem opG_op {g : GM} (h : g.Ok) (o : GOp) : OpP g o (opG g o) := by
  unfold opG
  split
  · rename_i e; exact inn_op h o e
  split
  · rename_i e; exact out_op h o e
  split
  · rename_i e; exact rate_op h o e
  split
  · rename_i e; exact cutt_op h o e
  split
  · rename_i e; exact take_op h o e
  split
  · rename_i e; exact swp_op h o e
  · rename_i e _ _ _ _ _; exact book_op h o e
end Go.Proofs.YtiehbbhjpcnbnaaGreat
namespace Go.Proofs.YtiehbbhjpcnbnaaGreat
open Go.RowKit
set_option linter.unusedVariables false

set_option maxHeartbeats 1000000 in
theorem neg_any (x : Int) (w : World) : Calls Tryz.prog 75 #[.int .i64 x] w fun e w' => e = .returned (.bool (decide (x < 0))) ∧ w = w' := by
  by_cases h : x < 0
  · go_enter Tryz.func75, Tryz.ntmps75
    go_wp2_with fail
    go_ret
    exact ⟨retL_bool (by simpa using h), rfl⟩
  · go_enter Tryz.func75, Tryz.ntmps75
    go_wp2_with fail
    go_ret
    exact ⟨retL_bool (by simpa using h), rfl⟩
def negB (zs : List Int) : Bool := zs.any fun z => decide (z < 0)
theorem negB_yes {zs : List Int} {k : Nat} (hk : k < zs.length) (h : zs.getD k 0 < 0) : negB zs = true := by
  rw [List.getD_eq_getElem?_getD, List.getElem?_eq_getElem hk] at h
  exact List.any_eq_true.2 ⟨zs[k], List.getElem_mem hk, by simpa using h⟩
theorem negB_no {zs : List Int} (h : ∀ i, i < zs.length → ¬ zs.getD i 0 < 0) : negB zs = false := by
  unfold negB
  rw [List.any_eq_false]
  intro x hx
  obtain ⟨i, hi, rfl⟩ := List.getElem_of_mem hx
  have := h i hi
  rw [List.getD_eq_getElem?_getD, List.getElem?_eq_getElem hi] at this
  simpa using this
theorem negB_all {zs : List Int} (h : negB zs = false) (i : Nat) : 0 ≤ zs.getD i 0 := by
  by_cases hi : i < zs.length
  · rw [List.getD_eq_getElem?_getD, List.getElem?_eq_getElem hi]
    unfold negB at h
    rw [List.any_eq_false] at h
    have := h _ (List.getElem_mem hi)
    simp at this
    simpa using this
  · rw [List.getD_eq_getElem?_getD, List.getElem?_eq_none (by omega)]; decide

set_option maxHeartbeats 1000000 in
set_option maxRecDepth 100000 in
theorem index_neg (p : Option Addr) (len cap : Nat) (zs : List Int) (w : World) (hs : Seq64 w p len zs) :
    Calls Tryz.prog 108 #[.slice p len cap, .func (.func 75) #[] #[]] w fun e w' => ∃ n : Int, e = .returned (.int .i64 n) ∧ decide (0 ≤ n) = negB zs ∧ Below w.heap.size w w' := by
  obtain ⟨hl, hz, hm, hcells⟩ := hs
  replace hl := Lib.hid hl
  replace hz := Lib.hid hz
  replace hcells := Lib.hid hcells
  go_enter Tryz.func108, Tryz.ntmps108
  go_wp2_with fail
  go_loopw [8] (fun i wr => ∃ k : Nat, k ≤ len ∧ i = .int .i64 k ∧ Below w.heap.size w wr ∧ ∀ i, i < k → ¬ zs.getD i 0 < 0) (fun i _ => len - (intOf i).toNat)
  case atStart => exact ⟨0, by omega, rfl, Below.refl _ _, fun i hi => by omega⟩
  case round =>
    obtain ⟨k, hk, rfl, hb, hall⟩ := hrel
    replace hall := Lib.hid hall
    by_cases hlt : k < len
    · obtain ⟨b, off, rfl, hblt, hc⟩ := hcells.out.resolve_left (by omega)
      have c0 := hc k hlt
      rw [← hb.cell (p := ⟨b, off + k, none⟩) hblt] at c0
      have hsz := hb.size
      clear hc
      have hcon := neg_any (zs.getD k 0) wr
      replace hb := Lib.hid hb
      obtain ⟨z, hX⟩ : ∃ z, zs.getD k 0 = z := ⟨_, rfl⟩
      rw [hX] at c0 hcon
      replace hX := Lib.hid hX
      by_cases hF : z < 0
      · have hfin := Lib.hid (negB_yes (zs := zs) (by rw [hl.out]; exact hlt) (by rw [hX.out]; exact hF))
        have hk0 : decide ((0 : Int) ≤ (k : Int)) = true := by simp
        replace hk0 := Lib.hid hk0
        rw [show decide (z < 0) = true from by simpa using hF] at hcon
        replace hcon := Lib.hid hcon
        clear hF
        go_wp2_with (first | (go_at_call 75; (with_reducible refine hcon.out.mono ?_); rintro e w1 ⟨rfl, rfl⟩))
        go_ret
        exact ⟨k, rfl, by rw [hfin.out]; exact hk0.out, hb.out⟩
      · rw [show decide (z < 0) = false from by simpa using hF] at hcon
        replace hcon := Lib.hid hcon
        replace hF := Lib.hid hF
        go_wp2_with (first | (go_at_call 75; (with_reducible refine hcon.out.mono ?_); rintro e w1 ⟨rfl, rfl⟩))
        go_roundw
        case rel =>
          refine ⟨k + 1, by omega, by go_num, hb.out, fun i hi => ?_⟩
          by_cases e : i = k
          · subst e; rw [hX.out]; have := hF.out; omega
          · have := hall.out i (by omega); omega
        case measure => simp [intOf]; omega
    · have hfin := Lib.hid (negB_no (zs := zs) fun i hi => by have := hall.out i (by rw [hl.out] at hi; omega); omega)
      replace hb := Lib.hid hb
      go_wp2_with fail
      go_ret
      exact ⟨-1, rfl, by rw [hfin.out]; rfl, hb.out⟩
set_option maxHeartbeats 1000000 in
theorem contains_neg (p : Option Addr) (len cap : Nat) (zs : List Int) (w : World) (hs : Seq64 w p len zs) :
    Calls Tryz.prog 74 #[.slice p len cap, .func (.func 75) #[] #[]] w fun e w' => e = .returned (.bool (negB zs)) ∧ Below w.heap.size w w' := by
  have hcon := Lib.hid (index_neg p len cap zs w hs)
  clear hs
  go_enter Tryz.func74, Tryz.ntmps74
  go_wp2_with (first | (go_at_call 108; (with_reducible refine hcon.out.mono ?_); rintro e w1 ⟨n, rfl, hn, hb⟩; replace hn := Lib.hid hn))
  go_ret
  exact ⟨by rw [← hn.out]; rfl, hb⟩

set_option maxRecDepth 100000 in
set_option maxHeartbeats 1000000 in
/-- append([]int64{}, zs...): a new row -/
theorem cloneI_any (b off n c : Nat) (zs : List Int) (w : World) (hs : Seq64 w (some ⟨b, off, none⟩) n zs) (h1 : 1 ≤ n) (h8 : n ≤ 1000) :
    Calls Tryz.prog 76 #[.slice (some ⟨b, off, none⟩) n c] w fun e w' => ∃ g' c', e = .returned (.slice (some ⟨g', 0, none⟩) n c') ∧ Seq64 w' (some ⟨g', 0, none⟩) n zs ∧ w.heap.size ≤ g' ∧ Below w.heap.size w w' := by
  obtain ⟨hl, hz, hm, hcells⟩ := hs
  obtain ⟨b', off', e, hlt, hc⟩ := hcells.resolve_left (by omega)
  injection e with e
  injection e with e1 e2
  subst e1; subst e2
  obtain ⟨i0, hi, hz0, hz1, hz2⟩ := info_parts Tryz.info2r
  have hW := heap_alloc_new w (.cells #[] 2)
  have hb0 : Below w.heap.size w (w.alloc (.cells #[] 2)) := (Below.refl _ _).alloc (Nat.le_refl _) _
  have hown : (w.alloc (.cells #[] 2)).ownsRow w.heap.size 2 1 (.slice (some ⟨w.heap.size, 0, none⟩) 0 0) 0 [] := ⟨by simp, .inr ⟨w.heap.size, 0, #[], rfl, Nat.le_refl _, hW, Nat.le_refl _, by unfold maxLen; omega, by simp, by simp⟩⟩
  obtain ⟨v', w', h2, h3, h4, _⟩ := run_append_own (P := Tryz.prog) (w.alloc (.cells #[] 2)) w.heap.size 56 56 2 i0 (.int .i64 0) 1 8 Tryz.underlying56 hi hz0 hz1 hz2 rfl (by decide) (.slice (some ⟨w.heap.size, 0, none⟩) 0 0) 0 [] hown ⟨b, off, none⟩ n c (zs.map (Value.int .i64)) (by rw [List.length_map, hl]; omega)
    (fun j u hu => by
      have hj : j < n := by have := (List.getElem?_eq_some_iff.1 hu).1; rw [List.length_map] at this; omega
      rw [List.getElem?_map, List.getElem?_eq_getElem (by omega)] at hu
      injection hu with hu
      rw [← hu, Go.WideShapes.add_plain]
      have := (hb0.cell (p := ⟨b, off + j, none⟩) hlt).trans (hc j hj)
      rw [List.getD_eq_getElem?_getD, List.getElem?_eq_getElem (by omega)] at this
      exact this)
    (fun u hu => by obtain ⟨x, _, rfl⟩ := List.mem_map.1 hu; rfl) (by unfold maxLen; omega) (by omega) (by simp)
  rw [Nat.zero_add, List.nil_append] at h3
  have hB : Below w.heap.size w w' := hb0.grown h4 (by simp) (fun k hk => by simp [Value.ownBlock] at hk; omega)
  rcases h3.2 with ⟨_, e0⟩ | ⟨g', cap, cur, rfl, hg, hh, hn, hmm, hsz, ht⟩
  · omega
  have hS : Seq64 w' (some ⟨g', 0, none⟩) n zs := ⟨hl, hz, by omega, .inr ⟨g', 0, rfl, obj_lt hh, fun i hi => obj_cell hh (by
    have e : ((zs.map (Value.int .i64)))[i]? = cur[0 + i]? := by rw [← ht, List.getElem?_take, if_pos (by omega), Array.getElem?_toList, Nat.zero_add]
    rw [← e, List.getElem?_map, List.getD_eq_getElem?_getD, List.getElem?_eq_getElem (by omega)]
    rfl)⟩⟩
  replace h2 := Lib.hid h2
  replace hS := Lib.hid hS
  replace hB := Lib.hid hB
  replace hc := Lib.hid hc
  replace hz := Lib.hid hz
  have heq : ∀ w, (binOp BinOp.eql 56 (.slice (some ⟨b, off, none⟩) n c) (.slice none 0 0)).run Tryz.prog w = .ok (.bool false) w := fun w => by
    rw [Lib.run_eql_slice_nil w 56 2 _ _ _ _ _ Tryz.underlying56]; rfl
  go_enter Tryz.func76, Tryz.ntmps76
  go_wp2_with (at_builtin; refine wpList_run rfl (.tmp 5) (.tmp 6) 56 56 rfl _ _ _ _ rfl rfl h2.out ?_)
  go_ret
  exact ⟨_, ⟨_, rfl⟩, hS.out, hg, hB.out⟩

/-- a balance is below its Short, of the other sign -/
theorem exB_congr {nc : Nat} {L : Lim} {d f : Nat → Int} (h : ∀ c, c < nc → d c = f c) : exB nc L d = exB nc L f := by
  cases e : exB nc L f with
  | true =>
    obtain ⟨c, hc, hx⟩ := exB_iff.1 e
    exact exB_iff.2 ⟨c, hc, by rw [h c hc]; exact hx⟩
  | false =>
    cases e2 : exB nc L d with
    | false => rfl
    | true =>
      obtain ⟨c, hc, hx⟩ := exB_iff.1 e2
      rw [h c hc] at hx
      rw [exB_iff.2 ⟨c, hc, hx⟩] at e
      exact e
set_option maxHeartbeats 2000000 in
set_option maxRecDepth 100000 in
theorem exceeds_any (p : Option Addr) (len cap : Nat) (ds : List Int) (q : Option Addr) (c2 : Nat) (L : Lim) (w : World) (hd : Seq64 w p len ds) (hs : Seq64 w q len L.xs) (hpos : ∀ c, 0 ≤ L.sh c) :
    Calls Tryz.prog 122 #[.slice p len cap, .slice q len c2] w fun e w' => e = .returned (.bool (exB len L fun c => ds.getD c 0)) ∧ Below w.heap.size w w' := by
  have hd2 := Lib.hid hd
  have hs2 := Lib.hid hs
  replace hd := Lib.hid hd
  replace hs := Lib.hid hs
  have hpos2 := Lib.hid hpos
  clear hpos
  have hlen := hd.out.2.2.1
  obtain ⟨X, hXX⟩ : ∃ X, exB len L (fun c => ds.getD c 0) = X := ⟨_, rfl⟩
  rw [hXX]
  replace hXX := Lib.hid hXX
  go_enter Tryz.func122, Tryz.ntmps122
  go_wp2_with fail
  go_loopw [9] (fun i wr => ∃ k : Nat, k ≤ len ∧ i = .int .i64 k ∧ Below w.heap.size w wr ∧ ∀ i, i < k → ¬ ds.getD i 0 < -(L.sh i)) (fun i _ => len - (intOf i).toNat)
  case atStart => exact ⟨0, by omega, rfl, Below.refl _ _, fun i hi => by omega⟩
  case round =>
    obtain ⟨k, hk, rfl, hb, hall⟩ := hrel
    replace hall := Lib.hid hall
    by_cases hlt : k < len
    · have hkz : (k : Int) < (len : Int) := by omega
      obtain ⟨_, hz1, _, h1⟩ := hd.out
      obtain ⟨b, off, rfl, hblt, hc⟩ := h1.resolve_left (by omega)
      obtain ⟨_, hz2, _, h2⟩ := hs.out
      obtain ⟨b2, off2, rfl, hblt2, hc2⟩ := h2.resolve_left (by omega)
      have c0 := (hb.cell (p := ⟨b, off + k, none⟩) hblt).trans (hc k hlt)
      have d0 := (hb.cell (p := ⟨b2, off2 + k, none⟩) hblt2).trans (hc2 k hlt)
      have hsz := hb.size
      have hx0 := hpos2.out k
      have hx1 := hz2 k
      have hy1 := hz1 k
      unfold Amt at hx1 hy1
      unfold Lim.sh at hx0
      clear hc hc2 h1 h2 hz1 hz2
      replace hb := Lib.hid hb
      generalize hY : ds.getD k 0 = y at *
      generalize hX : L.xs.getD k 0 = x at *
      by_cases hF : y < -x
      · have hfin : Hid (exB len L (fun c => ds.getD c 0) = true) := Lib.hid (exB_iff.2 ⟨k, hlt, by show ds.getD k 0 < -(L.xs.getD k 0); rw [hX, hY]; exact hF⟩)
        replace hY := Lib.hid hY
        replace hX := Lib.hid hX
        go_wp2_with fail
        go_ret
        exact ⟨by rw [← hXX.out, hfin.out]; rfl, hb.out⟩
      · replace hY := Lib.hid hY
        replace hX := Lib.hid hX
        go_wp2_with fail
        go_roundw
        case rel =>
          refine ⟨k + 1, by omega, by go_num, hb.out, fun i hi => ?_⟩
          by_cases e : i = k
          · subst e
            show ¬ ds.getD i 0 < -(L.xs.getD i 0)
            rw [hX.out, hY.out]; omega
          · have := hall.out i (by omega); omega
        case measure => simp [intOf]; omega
    · have hfin : Hid (exB len L (fun c => ds.getD c 0) = false) := Lib.hid (by
        cases e : exB len L (fun c => ds.getD c 0) with
        | false => rfl
        | true =>
          obtain ⟨c, hc, hx⟩ := exB_iff.1 e
          have := hall.out c (by omega); omega)
      replace hb := Lib.hid hb
      go_wp2_with fail
      go_ret
      exact ⟨by rw [← hXX.out, hfin.out]; rfl, hb.out⟩

set_option maxHeartbeats 4000000 in
set_option maxRecDepth 100000 in
theorem failed_any (q : Option Addr) (c2 : Nat) (L : Lim) (p : Option Addr) (len cap : Nat) (ds : List Int) (net short : Int) (w : World) (hd : Seq64 w p len ds) (hs : Seq64 w q len L.xs) (hpos : ∀ c, 0 ≤ L.sh c) :
    Calls Tryz.prog 102 #[.agg #[.slice q len c2, .int .i64 L.all], .slice p len cap, .int .i64 net, .int .i64 short] w fun e w' => e = .returned (.int .i64 (bits (decide (net < 0)) (exB len L fun c => ds.getD c 0) (decide (L.all < short)))) ∧ Below w.heap.size w w' := by
  have hbx := heap_alloc_new w (.cells #[.slice q len c2, .int .i64 L.all] 58)
  have hB : Below w.heap.size w (w.alloc (.cells #[.slice q len c2, .int .i64 L.all] 58)) := (Below.refl _ _).alloc (Nat.le_refl _) _
  have hX := exceeds_any p len cap ds q c2 L _ (hd.kept hB) (hs.kept hB) hpos
  generalize exB len L (fun c => ds.getD c 0) = X at *
  have hN := neg_any net
  clear hd hs hpos
  generalize L.all = A at *
  generalize hv : w.alloc (.cells #[.slice q len c2, .int .i64 A] 58) = v at *
  have b0 : v.cell? ⟨w.heap.size, 0, none⟩ = some (.slice q len c2) := obj_cell hbx rfl
  replace hX : Calls Tryz.prog 122 #[.slice p len cap, .slice q len c2] v fun e w' => e = .returned (.bool X) ∧ Below v.heap.size v w' ∧ w'.cell? ⟨w.heap.size, 1, none⟩ = some (.int .i64 A) ∧ Below w.heap.size w w' := hX.mono fun e w' ⟨h1, h2⟩ => ⟨h1, h2, (h2.cell (p := ⟨w.heap.size, 1, none⟩) (obj_lt hbx)).trans (obj_cell hbx rfl), hB.trans (h2.mono hB.size)⟩
  replace hX := Lib.hid hX
  replace hv := Lib.hid hv
  replace hbx := Lib.hid hbx
  replace hB := Lib.hid hB
  by_cases hn : net < 0
  · rw [show decide (net < 0) = true from by simpa using hn] at hN ⊢
    replace hN := Lib.hid hN
    cases X <;> by_cases ha : A < short <;>
    · go_enter Tryz.func102, Tryz.ntmps102
      go_upto_region 1 with (fail)
      change Code.wp _ _ _ _ (w.alloc (.cells #[.slice q len c2, .int .i64 A] 58))
      rw [hv.out]
      go_wp2_with (first | (go_at_call 75; (with_reducible refine (hN.out _).mono ?_); rintro e w1 ⟨rfl, rfl⟩) | (go_at_call 122; (with_reducible refine hX.out.mono ?_); rintro e w1 ⟨rfl, hb1, b1, hB1⟩; replace hB1 := Lib.hid hB1; replace hb1 := Lib.hid hb1))
      go_ret
      refine ⟨?_, hB1.out⟩
      first
        | rw [show decide (A < short) = true from by simpa using ha]; rfl
        | rw [show decide (A < short) = false from by simpa using ha]; rfl
  · rw [show decide (net < 0) = false from by simpa using hn] at hN ⊢
    replace hN := Lib.hid hN
    cases X <;> by_cases ha : A < short <;>
    · go_enter Tryz.func102, Tryz.ntmps102
      go_upto_region 1 with (fail)
      change Code.wp _ _ _ _ (w.alloc (.cells #[.slice q len c2, .int .i64 A] 58))
      rw [hv.out]
      go_wp2_with (first | (go_at_call 75; (with_reducible refine (hN.out _).mono ?_); rintro e w1 ⟨rfl, rfl⟩) | (go_at_call 122; (with_reducible refine hX.out.mono ?_); rintro e w1 ⟨rfl, hb1, b1, hB1⟩; replace hB1 := Lib.hid hB1; replace hb1 := Lib.hid hb1))
      go_ret
      refine ⟨?_, hB1.out⟩
      first
        | rw [show decide (A < short) = true from by simpa using ha]; rfl
        | rw [show decide (A < short) = false from by simpa using ha]; rfl

/-- a batch of a single posting -/
theorem prow_one {w : World} {m c a : Int} (hm : In64 m) (hc : In64 c) (ha : In64 a) : PRow (w.alloc (.cells #[.int .i64 m, .int .i64 c, .int .i64 a] 60)) (some ⟨w.heap.size, 0, none⟩) 1 [⟨m, c, a⟩] := by
  have hb := heap_alloc_new w (.cells #[.int .i64 m, .int .i64 c, .int .i64 a] 60)
  refine ⟨rfl, fun q hq => ?_, .inr ⟨_, 0, rfl, obj_lt hb, fun i q hq => ?_⟩⟩
  · obtain rfl := List.mem_singleton.1 hq
    exact ⟨hm, hc, ha⟩
  · match i with
    | 0 => injection hq with hq; rw [← hq]; exact ⟨obj_cell hb rfl, obj_cell hb rfl, obj_cell hb rfl⟩
    | i + 1 => simp at hq
set_option maxHeartbeats 1000000 in
theorem one_any (m c a : Int) (w : World) : Calls Tryz.prog 43 #[.int .i64 m, .int .i64 c, .int .i64 a] w fun e w' => e = .returned (.slice (some ⟨w.heap.size, 0, none⟩) 1 1) ∧ w' = w.alloc (.cells #[.int .i64 m, .int .i64 c, .int .i64 a] 60) := by
  go_enter Tryz.func43, Tryz.ntmps43
  go_wp2_with fail
  go_ret
  exact ⟨rfl, rfl⟩

set_option maxHeartbeats 1000000 in
theorem partQ_any (q : Pst) (b : Nat) (m : Int) (w : World) (hb : w.cell? ⟨b, 0, none⟩ = some (.int .i64 m)) : Calls Tryz.prog 95 #[.agg #[.int .i64 q.m, .int .i64 q.c, .int .i64 q.a], .pointer (some ⟨b, 0, none⟩)] w fun e w' => e = .returned (.bool (decide (q.m = m))) ∧ Below w.heap.size w w' := by
  have hbx := heap_alloc_new w (.cells #[.int .i64 q.m, .int .i64 q.c, .int .i64 q.a] 60)
  have hB : Below w.heap.size w (w.alloc (.cells #[.int .i64 q.m, .int .i64 q.c, .int .i64 q.a] 60)) := (Below.refl _ _).alloc (Nat.le_refl _) _
  have hb1 := (hB.cell (p := ⟨b, 0, none⟩) (World.block_lt_of_cell? _ _ hb)).trans hb
  generalize hv : w.alloc (.cells #[.int .i64 q.m, .int .i64 q.c, .int .i64 q.a] 60) = v at *
  have b0 : v.cell? ⟨w.heap.size, 0, none⟩ = some (.int .i64 q.m) := obj_cell hbx rfl
  replace hbx := Lib.hid hbx
  replace hB := Lib.hid hB
  replace hv := Lib.hid hv
  by_cases h : q.m = m
  · have hz : (q.m == m) = true := by simpa using h
    replace h := Lib.hid h
    go_enter Tryz.func95, Tryz.ntmps95
    go_upto_region 1 with (fail)
    rw [hv.out]
    go_wp2_with fail
    go_ret
    exact ⟨retL_bool (by simpa using h.out), hB.out⟩
  · have hz : (q.m == m) = false := by simpa using h
    replace h := Lib.hid h
    go_enter Tryz.func95, Tryz.ntmps95
    go_upto_region 1 with (fail)
    rw [hv.out]
    go_wp2_with fail
    go_ret
    exact ⟨retL_bool (by simpa using h.out), hB.out⟩
def partI (m : Int) (ps : List Pst) : Bool := ps.any fun q => decide (q.m = m)
theorem partI_nat (k : Nat) (ps : List Pst) : partI (k : Int) ps = partB k ps := rfl
theorem partI_yes {m : Int} {ps : List Pst} {k : Nat} {q : Pst} (hq : ps[k]? = some q) (h : q.m = m) : partI m ps = true := List.any_eq_true.2 ⟨q, List.mem_of_getElem? hq, by simpa using h⟩
theorem partI_no {m : Int} {ps : List Pst} (h : ∀ (i : Nat) (q : Pst), ps[i]? = some q → ¬ q.m = m) : partI m ps = false := by
  unfold partI
  rw [List.any_eq_false]
  intro q hq
  obtain ⟨i, hi, rfl⟩ := List.getElem_of_mem hq
  have := h i _ (List.getElem?_eq_getElem hi)
  simpa using this
set_option maxHeartbeats 1000000 in
set_option maxRecDepth 100000 in
theorem index_part (p : Option Addr) (len cap : Nat) (ps : List Pst) (b : Nat) (m : Int) (w : World) (hs : PRow w p len ps) (hlen : len ≤ 1000) (hb : w.cell? ⟨b, 0, none⟩ = some (.int .i64 m)) :
    Calls Tryz.prog 116 #[.slice p len cap, .func (.func 95) #[] #[.pointer (some ⟨b, 0, none⟩)]] w fun e w' => ∃ n : Int, e = .returned (.int .i64 n) ∧ decide (0 ≤ n) = partI m ps ∧ Below w.heap.size w w' := by
  obtain ⟨hl, hz, hcells⟩ := hs
  have hbl := World.block_lt_of_cell? _ _ hb
  replace hl := Lib.hid hl
  replace hz := Lib.hid hz
  replace hcells := Lib.hid hcells
  replace hb := Lib.hid hb
  go_enter Tryz.func116, Tryz.ntmps116
  go_wp2_with fail
  go_loopw [8] (fun i wr => ∃ k : Nat, k ≤ len ∧ i = .int .i64 k ∧ Below w.heap.size w wr ∧ ∀ (i : Nat) (q : Pst), i < k → ps[i]? = some q → ¬ q.m = m) (fun i _ => len - (intOf i).toNat)
  case atStart => exact ⟨0, by omega, rfl, Below.refl _ _, fun i q hi => by omega⟩
  case round =>
    obtain ⟨k, hk, rfl, hB, hall⟩ := hrel
    replace hall := Lib.hid hall
    by_cases hlt : k < len
    · have hkz : (k : Int) < (len : Int) := by omega
      obtain ⟨rb, off, rfl, hblt, hc⟩ := hcells.out.resolve_left (by omega)
      obtain ⟨q, hq⟩ : ∃ q, ps[k]? = some q := ⟨_, List.getElem?_eq_getElem (by rw [hl.out]; exact hlt)⟩
      obtain ⟨c0, c1, c2⟩ := hc k q hq
      rw [← hB.cell (p := ⟨rb, off + k * 3, none⟩) hblt] at c0
      rw [← hB.cell (p := ⟨rb, off + k * 3 + 1, none⟩) hblt] at c1
      rw [← hB.cell (p := ⟨rb, off + k * 3 + 2, none⟩) hblt] at c2
      have hsz := hB.size
      clear hc
      have hcon := partQ_any q b m wr ((hB.cell (p := ⟨b, 0, none⟩) hbl).trans hb.out)
      replace hB := Lib.hid hB
      by_cases hF : q.m = m
      · have hfin := Lib.hid (partI_yes hq hF)
        have hk0 : decide ((0 : Int) ≤ (k : Int)) = true := by simp
        replace hk0 := Lib.hid hk0
        rw [show decide (q.m = m) = true from by simpa using hF] at hcon
        replace hcon := Lib.hid hcon
        replace hq := Lib.hid hq
        clear hF
        go_wp2_with (first | (go_at_call 95; (with_reducible refine hcon.out.mono ?_); rintro e w1 ⟨rfl, hb2⟩))
        go_ret
        exact ⟨k, rfl, by rw [hfin.out]; exact hk0.out, chain_trans hB.out hb2⟩
      · rw [show decide (q.m = m) = false from by simpa using hF] at hcon
        replace hcon := Lib.hid hcon
        replace hF := Lib.hid hF
        replace hq := Lib.hid hq
        go_wp2_with (first | (go_at_call 95; (with_reducible refine hcon.out.mono ?_); rintro e w1 ⟨rfl, hb2⟩))
        go_roundw
        case rel =>
          refine ⟨k + 1, by omega, by go_num, chain_trans hB.out hb2, fun i y hi hy => ?_⟩
          by_cases e : i = k
          · subst e
            rw [hq.out] at hy
            injection hy with hy
            subst hy
            exact hF.out
          · exact hall.out i y (by omega) hy
        case measure => simp [intOf]; omega
    · have hfin := Lib.hid (partI_no (m := m) (ps := ps) fun i q hq => hall.out i q (by have := (List.getElem?_eq_some_iff.1 hq).1; rw [hl.out] at this; omega) hq)
      replace hB := Lib.hid hB
      go_wp2_with fail
      go_ret
      exact ⟨-1, rfl, by rw [hfin.out]; rfl, hB.out⟩
set_option maxHeartbeats 1000000 in
theorem contains_part (p : Option Addr) (len cap : Nat) (ps : List Pst) (b : Nat) (m : Int) (w : World) (hs : PRow w p len ps) (hlen : len ≤ 1000) (hb : w.cell? ⟨b, 0, none⟩ = some (.int .i64 m)) :
    Calls Tryz.prog 94 #[.slice p len cap, .func (.func 95) #[] #[.pointer (some ⟨b, 0, none⟩)]] w fun e w' => e = .returned (.bool (partI m ps)) ∧ Below w.heap.size w w' := by
  have hcon := Lib.hid (index_part p len cap ps b m w hs hlen hb)
  clear hs hb
  go_enter Tryz.func94, Tryz.ntmps94
  go_wp2_with (first | (go_at_call 116; (with_reducible refine hcon.out.mono ?_); rintro e w1 ⟨n, rfl, hn, hb⟩; replace hn := Lib.hid hn))
  go_ret
  exact ⟨by rw [← hn.out]; rfl, hb⟩
set_option maxHeartbeats 1000000 in
theorem part_any (m : Int) (p : Option Addr) (len cap : Nat) (ps : List Pst) (w : World) (hs : PRow w p len ps) (hlen : len ≤ 1000) :
    Calls Tryz.prog 65 #[.int .i64 m, .slice p len cap] w fun e w' => e = .returned (.bool (partI m ps)) ∧ Below w.heap.size w w' := by
  have hbx := heap_alloc_new w (.cells #[.int .i64 m] 3)
  have hB : Below w.heap.size w (w.alloc (.cells #[.int .i64 m] 3)) := (Below.refl _ _).alloc (Nat.le_refl _) _
  have hcon : Calls Tryz.prog 94 #[.slice p len cap, .func (.func 95) #[] #[.pointer (some ⟨w.heap.size, 0, none⟩)]] (w.alloc (.cells #[.int .i64 m] 3)) fun e w' => e = .returned (.bool (partI m ps)) ∧ Below w.heap.size w w' := (contains_part p len cap ps w.heap.size m _ (hs.kept hB) hlen (obj_cell hbx rfl)).mono fun e w' ⟨h1, h2⟩ => ⟨h1, hB.trans (h2.mono hB.size)⟩
  replace hcon := Lib.hid hcon
  clear hs hbx hB
  go_enter Tryz.func65, Tryz.ntmps65
  go_wp2_with (first | (go_at_call 94; (with_reducible refine hcon.out.mono ?_); rintro e w1 ⟨rfl, hb⟩))
  go_ret
  exact ⟨rfl, hb⟩
end Go.Proofs.YtiehbbhjpcnbnaaGreat
