/- Ledgers, plainly: balances, nostros, batches, their bytes; that sums are kept; there and back. No Go text.
  Ledgers, plainly: batches keep sums; a batch and what takes it off; a ledger's bytes, there and back. No Go text.
  What balances are worth and what they are short, as numbers.
  What a member would be worth behind postings, as numbers.
  Plain arithmetic of numbers by digits of ten thousands: no Go text.
  The contracts of the reference's numbers of any size: digit, trim, Of, Turned.
  The contract of the reference's larger.
  The contract of the reference's Add: where the signs are alike. -/
import Derived.Test.YtiehbbhjpcnbnaaGreatW0
import Derived.Test.YtiehbbhjpcnbnaaGreatP4
import Derived.Below
import Derived.Test.YtiehbbhjpcnbnaaGreatProg
import Derived.WalkKit
import Derived.Lib.Hide
import Derived.Outline
import Derived.OwnWalk
import Derived.Laws.AppendOwn
import Derived.Deep.DeepCutAuto
import Derived.Deep.CutBlock
import Derived.Deep.RegionWith
import Derived.Deep.QuietTactic
import Derived.BigQuiet
import Derived.RegionTactic
import Derived.ChangeAlike
import Derived.WalkSpells
import Derived.Deep.RegionHeld3
namespace Go.Proofs.YtiehbbhjpcnbnaaGreat
set_option linter.unusedVariables false

/-- a ledger: how many members and currencies, the balances, the nostros -/
structure LM where
  nm : Nat
  nc : Nat
  B : Nat → Nat → Int
  N : Nat → Int
def In64 (x : Int) : Prop := -9223372036854775808 ≤ x ∧ x ≤ 9223372036854775807
instance (x : Int) : Decidable (In64 x) := by unfold In64; exact inferInstance
/-- f, but x at i, j -/
def upd2 (f : Nat → Nat → Int) (i j : Nat) (x : Int) : Nat → Nat → Int := fun a b => if a = i ∧ b = j then x else f a b
theorem upd2_same (f : Nat → Nat → Int) (i j : Nat) (x : Int) : upd2 f i j x i j = x := if_pos ⟨rfl, rfl⟩
theorem upd2_other (f : Nat → Nat → Int) {i j a b : Nat} (x : Int) (h : ¬ (a = i ∧ b = j)) : upd2 f i j x a b = f a b := if_neg h
theorem upd2_twice (f : Nat → Nat → Int) (i j : Nat) (x y : Int) : upd2 (upd2 f i j x) i j y = upd2 f i j y := by
  funext a b; unfold upd2; split <;> simp_all
theorem upd2_self (f : Nat → Nat → Int) (i j : Nat) : upd2 f i j (f i j) = f := by
  funext a b; unfold upd2; split
  · rename_i h; rw [h.1, h.2]
  · rfl
/-- is there such a balance? -/
def LM.has (l : LM) (m c : Int) : Bool := decide (0 ≤ m ∧ m < l.nm ∧ 0 ≤ c ∧ c < l.nc)
theorem LM.has_iff {l : LM} {m c : Int} : l.has m c = true ↔ 0 ≤ m ∧ m < l.nm ∧ 0 ≤ c ∧ c < l.nc := by unfold LM.has; simp
theorem LM.has_nat {l : LM} {m c : Int} (h : l.has m c = true) : ∃ i j : Nat, m = i ∧ c = j ∧ i < l.nm ∧ j < l.nc := by
  obtain ⟨h1, h2, h3, h4⟩ := LM.has_iff.1 h
  exact ⟨m.toNat, c.toNat, by omega, by omega, by omega, by omega⟩
def LM.get (l : LM) (m c : Int) : Int := if l.has m c then l.B m.toNat c.toNat else 0
def LM.nos (l : LM) (c : Int) : Int := if 0 ≤ c ∧ c < l.nc then l.N c.toNat else 0
/-- paid in -/
def LM.inn (l : LM) (m c a : Int) : Int × LM :=
  if l.has m c = true ∧ 1 ≤ a then
    if In64 (l.B m.toNat c.toNat + a) ∧ In64 (l.N c.toNat + a) then (0, ⟨l.nm, l.nc, upd2 l.B m.toNat c.toNat (l.B m.toNat c.toNat + a), upd l.N c.toNat (l.N c.toNat + a)⟩) else (3, l)
  else (1, l)
/-- paid out -/
def LM.out (l : LM) (m c a : Int) : Int × LM :=
  if l.has m c = true ∧ 1 ≤ a then
    if l.B m.toNat c.toNat < a ∨ l.N c.toNat < a then (10, l) else (0, ⟨l.nm, l.nc, upd2 l.B m.toNat c.toNat (l.B m.toNat c.toNat - a), upd l.N c.toNat (l.N c.toNat - a)⟩)
  else (1, l)
/-- one currency for another one -/
def LM.swap (l : LM) (m g v : Int) (got given : Int) : Int × LM :=
  if l.has m g = true ∧ l.has m v = true ∧ g ≠ v ∧ 1 ≤ got ∧ 1 ≤ given then
    if l.N v.toNat < given then (10, l)
    else if In64 (l.B m.toNat g.toNat + got) ∧ In64 (l.N g.toNat + got) ∧ In64 (l.B m.toNat v.toNat - given) then
      (0, ⟨l.nm, l.nc, upd2 (upd2 l.B m.toNat g.toNat (l.B m.toNat g.toNat + got)) m.toNat v.toNat (l.B m.toNat v.toNat - given), upd (upd l.N g.toNat (l.N g.toNat + got)) v.toNat (l.N v.toNat - given)⟩)
    else (3, l)
  else (1, l)
/-- a posting -/
structure Pst where
  m : Int
  c : Int
  a : Int
/-- all that is posted of a currency -/
def sumC (c : Int) : List Pst → Int
  | [] => 0
  | p :: ps => (if p.c = c then p.a else 0) + sumC c ps
/-- one posting after the other, or none where a balance would be no amount -/
def goP (B : Nat → Nat → Int) : List Pst → Option (Nat → Nat → Int)
  | [] => some B
  | p :: ps => if In64 (B p.m.toNat p.c.toNat + p.a) then goP (upd2 B p.m.toNat p.c.toNat (B p.m.toNat p.c.toNat + p.a)) ps else none
def LM.known (l : LM) (ps : List Pst) : Bool := ps.all fun p => l.has p.m p.c
def LM.even (l : LM) (ps : List Pst) : Bool := (List.range l.nc).all fun c => sumC (c : Nat) ps == 0
/-- a batch -/
def LM.post (l : LM) (ps : List Pst) : Int × LM :=
  if l.known ps = true then
    if l.even ps = true then (match goP l.B ps with | some B => (0, ⟨l.nm, l.nc, B, l.N⟩) | none => (3, l)) else (12, l)
  else (1, l)

def sumM (f : Nat → Int) : Nat → Int
  | 0 => 0
  | n + 1 => sumM f n + f n
theorem sumM_congr {f g : Nat → Int} : ∀ n, (∀ i, i < n → f i = g i) → sumM f n = sumM g n
  | 0, _ => rfl
  | n + 1, h => by rw [sumM, sumM, sumM_congr n (fun i hi => h i (by omega)), h n (by omega)]
theorem sumM_upd (f : Nat → Int) (k : Nat) (x : Int) : ∀ n, k < n → sumM (upd f k x) n = sumM f n + (x - f k)
  | 0, h => by omega
  | n + 1, h => by
    by_cases e : k = n
    · subst e
      rw [sumM, sumM, upd_same, (sumM_congr k (fun i hi => upd_other f x (by omega)) : sumM (upd f k x) k = sumM f k)]
      omega
    · rw [sumM, sumM, sumM_upd f k x n (by omega), upd_other f x (by omega)]
      omega
theorem sum_col (B : Nat → Nat → Int) {i j c n : Nat} (x : Int) (hi : i < n) : sumM (fun m => upd2 B i j x m c) n = sumM (fun m => B m c) n + (if c = j then x - B i j else 0) := by
  by_cases e : c = j
  · subst e
    rw [if_pos rfl]
    have h := sumM_upd (fun m => B m c) i x n hi
    rw [← h]
    refine sumM_congr n fun m hm => ?_
    unfold upd2 upd
    by_cases e2 : m = i
    · rw [if_pos ⟨e2, rfl⟩, if_pos e2]
    · rw [if_neg (fun h => e2 h.1), if_neg e2]
  · rw [if_neg e, Int.add_zero]
    exact sumM_congr n fun m hm => upd2_other B x (fun h => e h.2)

/-- a ledger as there are -/
structure LM.Ok (l : LM) : Prop where
  nm : 1 ≤ l.nm ∧ l.nm ≤ 16
  nc : 1 ≤ l.nc ∧ l.nc ≤ 8
  b : ∀ m c, In64 (l.B m c)
  n : ∀ c, In64 (l.N c)
  bz : ∀ m c, ¬ (m < l.nm ∧ c < l.nc) → l.B m c = 0
  nz : ∀ c, ¬ c < l.nc → l.N c = 0
/-- the balances are together the nostro, which isn't below 0 -/
structure LM.Sum (l : LM) : Prop where
  sum : ∀ c, c < l.nc → sumM (fun m => l.B m c) l.nm = l.N c
  pos : ∀ c, c < l.nc → 0 ≤ l.N c
def LM.new (nm nc : Nat) : LM := ⟨nm, nc, fun _ _ => 0, fun _ => 0⟩
theorem sumM_zero : ∀ n, sumM (fun _ => 0) n = 0
  | 0 => rfl
  | n + 1 => by rw [sumM, sumM_zero n]; rfl
theorem new_ok {nm nc : Nat} (h1 : 1 ≤ nm ∧ nm ≤ 16) (h2 : 1 ≤ nc ∧ nc ≤ 8) : (LM.new nm nc).Ok ∧ (LM.new nm nc).Sum :=
  ⟨⟨h1, h2, fun _ _ => by show In64 0; decide, fun _ => by show In64 0; decide, fun _ _ _ => rfl, fun _ _ => rfl⟩, ⟨fun c _ => sumM_zero nm, fun c _ => Int.le_refl 0⟩⟩
theorem upd2_ok {l : LM} (h : l.Ok) {i j : Nat} {x : Int} (hi : i < l.nm) (hj : j < l.nc) (hx : In64 x) {N : Nat → Int} (hN : ∀ c, In64 (N c)) (hz : ∀ c, ¬ c < l.nc → N c = 0) : (⟨l.nm, l.nc, upd2 l.B i j x, N⟩ : LM).Ok :=
  ⟨h.nm, h.nc, fun m c => by
    show In64 (upd2 l.B i j x m c)
    unfold upd2
    split
    · exact hx
    · exact h.b m c, hN, fun m c hm => by
    show upd2 l.B i j x m c = 0
    rw [upd2_other l.B x (fun e => hm ⟨by rw [e.1]; exact hi, by rw [e.2]; exact hj⟩)]
    exact h.bz m c hm, hz⟩
theorem upd_in {N : Nat → Int} {j : Nat} {x : Int} (h : ∀ c, In64 (N c)) (hx : In64 x) : ∀ c, In64 (upd N j x c) := fun c => by
  unfold upd
  split
  · exact hx
  · exact h c
theorem upd_z {N : Nat → Int} {j n : Nat} {x : Int} (h : ∀ c, ¬ c < n → N c = 0) (hj : j < n) : ∀ c, ¬ c < n → upd N j x c = 0 := fun c hc => by
  rw [upd_other N x (by omega)]
  exact h c hc
/-- what is kept by every call -/
structure LM.Good (l : LM) : Prop where
  ok : l.Ok
  sum : l.Sum
/-- of the same size -/
def LM.like (l k : LM) : Prop := k.nm = l.nm ∧ k.nc = l.nc
theorem inn_good {l : LM} (h : l.Good) (m c a : Int) : (l.inn m c a).2.Good ∧ l.like (l.inn m c a).2 ∧ ((l.inn m c a).1 ≠ 0 → (l.inn m c a).2 = l) := by
  unfold LM.inn
  split
  · rename_i h1
    split
    · rename_i h2
      obtain ⟨i, j, rfl, rfl, hi, hj⟩ := LM.has_nat h1.1
      simp only [Int.toNat_natCast] at h2 ⊢
      refine ⟨⟨upd2_ok h.ok hi hj h2.1 (upd_in h.ok.n h2.2) (upd_z h.ok.nz hj), ⟨fun c hc => ?_, fun c hc => ?_⟩⟩, ⟨rfl, rfl⟩, fun e => absurd rfl e⟩
      · show sumM (fun m => upd2 l.B i j _ m c) l.nm = upd l.N j _ c
        rw [sum_col l.B _ hi, h.sum.sum c hc]
        by_cases e : c = j
        · subst e; rw [if_pos rfl, upd_same]; omega
        · rw [if_neg e, upd_other _ _ e]; omega
      · show 0 ≤ upd l.N j _ c
        have := h.sum.pos c hc
        by_cases e : c = j
        · subst e; rw [upd_same]; omega
        · rw [upd_other _ _ e]; exact this
    · exact ⟨h, ⟨rfl, rfl⟩, fun _ => rfl⟩
  · exact ⟨h, ⟨rfl, rfl⟩, fun _ => rfl⟩
theorem out_good {l : LM} (h : l.Good) (m c a : Int) : (l.out m c a).2.Good ∧ l.like (l.out m c a).2 ∧ ((l.out m c a).1 ≠ 0 → (l.out m c a).2 = l) := by
  unfold LM.out
  split
  · rename_i h1
    split
    · exact ⟨h, ⟨rfl, rfl⟩, fun _ => rfl⟩
    · rename_i h2
      obtain ⟨i, j, rfl, rfl, hi, hj⟩ := LM.has_nat h1.1
      simp only [Int.toNat_natCast] at h2 ⊢
      have hb := h.ok.b i j
      have hn := h.ok.n j
      unfold In64 at hb hn
      refine ⟨⟨upd2_ok h.ok hi hj (by unfold In64; omega) (upd_in h.ok.n (by unfold In64; omega)) (upd_z h.ok.nz hj), ⟨fun c hc => ?_, fun c hc => ?_⟩⟩, ⟨rfl, rfl⟩, fun e => absurd rfl e⟩
      · show sumM (fun m => upd2 l.B i j _ m c) l.nm = upd l.N j _ c
        rw [sum_col l.B _ hi, h.sum.sum c hc]
        by_cases e : c = j
        · subst e; rw [if_pos rfl, upd_same]; omega
        · rw [if_neg e, upd_other _ _ e]; omega
      · show 0 ≤ upd l.N j _ c
        have := h.sum.pos c hc
        by_cases e : c = j
        · subst e; rw [upd_same]; omega
        · rw [upd_other _ _ e]; exact this
  · exact ⟨h, ⟨rfl, rfl⟩, fun _ => rfl⟩
theorem swap_good {l : LM} (h : l.Good) (m g v got given : Int) : (l.swap m g v got given).2.Good ∧ l.like (l.swap m g v got given).2 ∧ ((l.swap m g v got given).1 ≠ 0 → (l.swap m g v got given).2 = l) := by
  unfold LM.swap
  split
  · rename_i h1
    split
    · exact ⟨h, ⟨rfl, rfl⟩, fun _ => rfl⟩
    · rename_i h2
      split
      · rename_i h3
        obtain ⟨i, j, rfl, rfl, hi, hj⟩ := LM.has_nat h1.1
        obtain ⟨i', k, hii, rfl, hi', hk⟩ := LM.has_nat h1.2.1
        simp only [Int.toNat_natCast] at h2 h3 ⊢
        have hjk : j ≠ k := by have := h1.2.2.1; omega
        have hb := h.ok.b i k
        have hn := h.ok.n k
        have h1a := h1.2.2.2
        unfold In64 at hb hn
        refine ⟨⟨upd2_ok (l := ⟨l.nm, l.nc, upd2 l.B i j _, upd l.N j (l.N j + got)⟩) (upd2_ok h.ok hi hj h3.1 (upd_in h.ok.n h3.2.1) (upd_z h.ok.nz hj)) hi hk h3.2.2 (upd_in (upd_in h.ok.n h3.2.1) (by unfold In64; omega)) (upd_z (upd_z h.ok.nz hj) hk), ⟨fun c hc => ?_, fun c hc => ?_⟩⟩, ⟨rfl, rfl⟩, fun e => absurd rfl e⟩
        · show sumM (fun m => upd2 (upd2 l.B i j _) i k _ m c) l.nm = upd (upd l.N j _) k _ c
          rw [sum_col _ _ hi, sum_col l.B _ hi, h.sum.sum c hc, upd2_other l.B _ (fun e => hjk e.2.symm)]
          by_cases e : c = k
          · subst e; rw [if_pos rfl, upd_same, if_neg (Ne.symm hjk)]; omega
          · rw [if_neg e, upd_other _ _ e]
            by_cases e2 : c = j
            · subst e2; rw [if_pos rfl, upd_same]; omega
            · rw [if_neg e2, upd_other _ _ e2]; omega
        · show 0 ≤ upd (upd l.N j _) k _ c
          have := h.sum.pos c hc
          by_cases e : c = k
          · subst e; rw [upd_same]; omega
          · rw [upd_other _ _ e]
            by_cases e2 : c = j
            · subst e2; rw [upd_same]; omega
            · rw [upd_other _ _ e2]; exact this
      · exact ⟨h, ⟨rfl, rfl⟩, fun _ => rfl⟩
  · exact ⟨h, ⟨rfl, rfl⟩, fun _ => rfl⟩
end Go.Proofs.YtiehbbhjpcnbnaaGreat
namespace Go.Proofs.YtiehbbhjpcnbnaaGreat
set_option linter.unusedVariables false

theorem go_cons {B C : Nat → Nat → Int} {p : Pst} {ps : List Pst} (h : goP B (p :: ps) = some C) : In64 (B p.m.toNat p.c.toNat + p.a) ∧ goP (upd2 B p.m.toNat p.c.toNat (B p.m.toNat p.c.toNat + p.a)) ps = some C := by
  unfold goP at h
  split at h
  · rename_i h1; exact ⟨h1, h⟩
  · cases h
theorem go_in : ∀ {ps : List Pst} {B C : Nat → Nat → Int}, goP B ps = some C → (∀ m c, In64 (B m c)) → ∀ m c, In64 (C m c)
  | [], B, C, h, hb => by injection h with h; rw [← h]; exact hb
  | p :: ps, B, C, h, hb => by
    obtain ⟨h1, h2⟩ := go_cons h
    refine go_in h2 fun m c => ?_
    unfold upd2
    split
    · exact h1
    · exact hb m c
theorem go_off : ∀ {ps : List Pst} {B C : Nat → Nat → Int} {nm nc : Nat}, goP B ps = some C → (∀ p ∈ ps, p.m.toNat < nm ∧ p.c.toNat < nc) → ∀ m c, ¬ (m < nm ∧ c < nc) → C m c = B m c
  | [], B, C, nm, nc, h, hk, m, c, hn => by injection h with h; rw [h]
  | p :: ps, B, C, nm, nc, h, hk, m, c, hn => by
    obtain ⟨h1, h2⟩ := go_cons h
    rw [go_off h2 (fun q hq => hk q (List.mem_cons_of_mem _ hq)) m c hn]
    have := hk p (List.mem_cons_self ..)
    exact upd2_other B _ (fun e => hn ⟨by rw [e.1]; exact this.1, by rw [e.2]; exact this.2⟩)
theorem go_sum : ∀ {ps : List Pst} {B C : Nat → Nat → Int} {nm : Nat}, goP B ps = some C → (∀ p ∈ ps, p.m.toNat < nm ∧ 0 ≤ p.c) → ∀ c : Nat, sumM (fun m => C m c) nm = sumM (fun m => B m c) nm + sumC (c : Nat) ps
  | [], B, C, nm, h, hk, c => by injection h with h; rw [h]; simp [sumC]
  | p :: ps, B, C, nm, h, hk, c => by
    obtain ⟨h1, h2⟩ := go_cons h
    have hp := hk p (List.mem_cons_self ..)
    rw [go_sum h2 (fun q hq => hk q (List.mem_cons_of_mem _ hq)) c, sum_col B _ hp.1, sumC]
    by_cases e : p.c = (c : Int)
    · rw [if_pos (by omega), if_pos e]; omega
    · rw [if_neg (by omega), if_neg e]; omega
theorem known_mem {l : LM} {ps : List Pst} (h : l.known ps = true) : ∀ p ∈ ps, l.has p.m p.c = true := List.all_eq_true.1 h
theorem known_bnd {l : LM} {ps : List Pst} (h : l.known ps = true) : ∀ p ∈ ps, p.m.toNat < l.nm ∧ p.c.toNat < l.nc ∧ 0 ≤ p.c := fun p hp => by
  have := LM.has_iff.1 (known_mem h p hp)
  omega
theorem even_iff {l : LM} {ps : List Pst} : l.even ps = true ↔ ∀ c : Nat, c < l.nc → sumC (c : Nat) ps = 0 := by
  unfold LM.even
  rw [List.all_eq_true]
  constructor
  · intro h c hc
    simpa using h c (List.mem_range.2 hc)
  · intro h c hc
    simpa using h c (List.mem_range.1 hc)
theorem post_good {l : LM} (h : l.Good) (ps : List Pst) : (l.post ps).2.Good ∧ l.like (l.post ps).2 ∧ ((l.post ps).1 ≠ 0 → (l.post ps).2 = l) := by
  unfold LM.post
  split
  · rename_i hk
    split
    · rename_i he
      cases hg : goP l.B ps with
      | none => exact ⟨h, ⟨rfl, rfl⟩, fun _ => rfl⟩
      | some C =>
        have hb := known_bnd hk
        refine ⟨⟨⟨h.ok.nm, h.ok.nc, go_in hg h.ok.b, h.ok.n, fun m c hn => ?_, h.ok.nz⟩, ⟨fun c hc => ?_, h.sum.pos⟩⟩, ⟨rfl, rfl⟩, fun e => absurd rfl e⟩
        · show C m c = 0
          rw [go_off hg (fun p hp => ⟨(hb p hp).1, (hb p hp).2.1⟩) m c hn]
          exact h.ok.bz m c hn
        · show sumM (fun m => C m c) l.nm = l.N c
          rw [go_sum hg (fun p hp => ⟨(hb p hp).1, (hb p hp).2.2⟩) c, h.sum.sum c hc, even_iff.1 he c hc]
          omega
    · exact ⟨h, ⟨rfl, rfl⟩, fun _ => rfl⟩
  · exact ⟨h, ⟨rfl, rfl⟩, fun _ => rfl⟩

/-- what takes a batch off -/
def offP (ps : List Pst) : List Pst := (ps.map fun p => ⟨p.m, p.c, -p.a⟩).reverse
theorem offP_cons (p : Pst) (ps : List Pst) : offP (p :: ps) = offP ps ++ [⟨p.m, p.c, -p.a⟩] := by unfold offP; rw [List.map_cons, List.reverse_cons]
theorem sumC_app (c : Int) : ∀ ps qs : List Pst, sumC c (ps ++ qs) = sumC c ps + sumC c qs
  | [], qs => by simp [sumC]
  | p :: ps, qs => by rw [List.cons_append, sumC, sumC, sumC_app c ps qs]; omega
theorem sumC_off (c : Int) : ∀ ps : List Pst, sumC c (offP ps) = - sumC c ps
  | [] => rfl
  | p :: ps => by
    rw [offP_cons, sumC_app, sumC_off c ps, sumC, sumC, sumC]
    show _ + ((if p.c = c then -p.a else 0) + 0) = _
    split <;> omega
theorem go_app : ∀ (ps qs : List Pst) (B : Nat → Nat → Int), goP B (ps ++ qs) = (goP B ps).bind fun C => goP C qs
  | [], qs, B => rfl
  | p :: ps, qs, B => by
    rw [List.cons_append, goP, goP]
    split
    · exact go_app ps qs _
    · rfl
theorem go_back : ∀ {ps : List Pst} {B C : Nat → Nat → Int}, goP B ps = some C → (∀ m c, In64 (B m c)) → goP C (offP ps) = some B
  | [], B, C, h, hb => by injection h with h; rw [h]; rfl
  | p :: ps, B, C, h, hb => by
    obtain ⟨h1, h2⟩ := go_cons h
    have hb2 : ∀ m c, In64 (upd2 B p.m.toNat p.c.toNat (B p.m.toNat p.c.toNat + p.a) m c) := fun m c => by
      unfold upd2
      split
      · exact h1
      · exact hb m c
    rw [offP_cons, go_app, go_back h2 hb2]
    show goP _ [_] = _
    unfold goP
    simp only [upd2_same]
    have e : B p.m.toNat p.c.toNat + p.a + -p.a = B p.m.toNat p.c.toNat := by omega
    rw [e, if_pos (hb _ _), upd2_twice, upd2_self]
    rfl
theorem known_off {l : LM} {ps : List Pst} (h : l.known ps = true) : l.known (offP ps) = true := by
  unfold LM.known offP at *
  rw [List.all_reverse, List.all_map]
  exact h
theorem known_like {l k : LM} (h : l.like k) (ps : List Pst) : k.known ps = l.known ps := by
  unfold LM.known LM.has
  rw [h.1, h.2]
/-- a batch, and then what takes it off -/
theorem post_back {l : LM} (h : l.Good) {ps : List Pst} (h0 : (l.post ps).1 = 0) : (l.post ps).2.post (offP ps) = (0, l) := by
  unfold LM.post at h0 ⊢
  split at h0
  · rename_i hk
    split at h0
    · rename_i he
      cases hg : goP l.B ps with
      | none => rw [hg] at h0; exact absurd h0 (by simp)
      | some C =>
        rw [if_pos hk, if_pos he]
        dsimp only
        have e1 : (⟨l.nm, l.nc, C, l.N⟩ : LM).known (offP ps) = true := by
          exact (known_off hk : l.known (offP ps) = true)
        have e2 : (⟨l.nm, l.nc, C, l.N⟩ : LM).even (offP ps) = true := even_iff.2 fun c hc => by
          rw [sumC_off, even_iff.1 he c hc]
          rfl
        rw [if_pos e1, if_pos e2, go_back hg h.ok.b]
    · exact absurd h0 (by simp)
  · exact absurd h0 (by simp)
/-- a pay-in, and a pay-out of as much -/
theorem inn_back {l : LM} (h : l.Good) {m c a : Int} (h0 : (l.inn m c a).1 = 0) (hg : 0 ≤ l.get m c) : (l.inn m c a).2.out m c a = (0, l) := by
  unfold LM.inn at h0 ⊢
  split at h0
  · rename_i h1
    split at h0
    · rename_i h2
      rw [if_pos h1, if_pos h2]
      obtain ⟨i, j, rfl, rfl, hi, hj⟩ := LM.has_nat h1.1
      unfold LM.get at hg
      rw [if_pos h1.1] at hg
      simp only [Int.toNat_natCast] at hg h2 ⊢
      have hp := h.sum.pos j hj
      unfold LM.out
      have h3 : (⟨l.nm, l.nc, upd2 l.B i j (l.B i j + a), upd l.N j (l.N j + a)⟩ : LM).has (i : Int) (j : Int) = true := LM.has_iff.2 ⟨by omega, by show (i : Int) < l.nm; omega, by omega, by show (j : Int) < l.nc; omega⟩
      rw [if_pos ⟨h3, h1.2⟩]
      simp only [Int.toNat_natCast, upd2_same, upd_same]
      rw [if_neg (by omega), upd2_twice, show l.B i j + a - a = l.B i j by omega, upd2_self, show l.N j + a - a = l.N j by omega]
      have e : upd (upd l.N j (l.N j + a)) j (l.N j) = l.N := by
        funext x; unfold upd
        split
        · rename_i e; rw [e]
        · rfl
      rw [e]
    · exact absurd h0 (by simp)
  · exact absurd h0 (by simp)

/-- amounts as bytes -/
def rowB (f : Nat → Int) : Nat → List UInt8
  | 0 => []
  | n + 1 => rowB f n ++ bes 8 (toU (f n))
theorem rowB_length (f : Nat → Int) : ∀ n, (rowB f n).length = 8 * n
  | 0 => rfl
  | n + 1 => by rw [rowB, List.length_append, rowB_length f n, bes_length]; omega
def rowsB (B : Nat → Nat → Int) (nc : Nat) : Nat → List UInt8
  | 0 => []
  | m + 1 => rowsB B nc m ++ rowB (B m) nc
theorem rowsB_length (B : Nat → Nat → Int) (nc : Nat) : ∀ m, (rowsB B nc m).length = 8 * nc * m
  | 0 => rfl
  | m + 1 => by rw [rowsB, List.length_append, rowsB_length B nc m, rowB_length, Nat.mul_succ]
/-- a ledger's bytes -/
def LM.text (l : LM) : List UInt8 := [UInt8.ofNat l.nm, UInt8.ofNat l.nc] ++ (rowB l.N l.nc ++ rowsB l.B l.nc l.nm)
theorem text_length (l : LM) : l.text.length = 2 + 8 * l.nc * (1 + l.nm) := by
  unfold LM.text
  rw [List.length_append, List.length_append, rowB_length, rowsB_length, Nat.mul_add]
  simp
def amt (s : List UInt8) (at_ : Nat) : Int := toI (vls ((s.drop at_).take 8))
/-- the ledger that bytes tell, whether or not its sums are right -/
def toldL (s : List UInt8) : LM :=
  let nm := (s.getD 0 0).toNat
  let nc := (s.getD 1 0).toNat
  ⟨nm, nc, fun m c => if m < nm ∧ c < nc then amt s (2 + 8 * (nc * (m + 1) + c)) else 0, fun c => if c < nc then amt s (2 + 8 * c) else 0⟩
def formL (s : List UInt8) : Bool := decide (2 ≤ s.length ∧ 1 ≤ (toldL s).nm ∧ (toldL s).nm ≤ 16 ∧ 1 ≤ (toldL s).nc ∧ (toldL s).nc ≤ 8 ∧ s.length = 2 + 8 * (toldL s).nc * (1 + (toldL s).nm))
def sumsL (l : LM) : Bool := (List.range l.nc).all fun c => sumM (fun m => l.B m c) l.nm == l.N c
/-- the ledger of bytes, or why there is none -/
def readL (s : List UInt8) : Int × Option LM := if formL s = true then (if sumsL (toldL s) = true then (0, some (toldL s)) else (8, none)) else (2, none)
theorem rowB_at (f : Nat → Int) : ∀ (n c : Nat) (r : List UInt8), c < n → (((rowB f n ++ r).drop (8 * c)).take 8) = bes 8 (toU (f c))
  | 0, c, r, h => by omega
  | n + 1, c, r, h => by
    rw [rowB, List.append_assoc]
    by_cases e : c = n
    · subst e
      rw [List.drop_left' (rowB_length f c), List.take_append_of_le_length (by rw [bes_length]; omega), List.take_of_length_le (by rw [bes_length]; omega)]
    · exact rowB_at f n c _ (by omega)
theorem rowsB_at (B : Nat → Nat → Int) (nc : Nat) : ∀ (n m c : Nat) (r : List UInt8), m < n → c < nc → (((rowsB B nc n ++ r).drop (8 * (nc * m + c))).take 8) = bes 8 (toU (B m c))
  | 0, m, c, r, h, hc => by omega
  | n + 1, m, c, r, h, hc => by
    rw [rowsB, List.append_assoc]
    by_cases e : m = n
    · subst e
      rw [show 8 * (nc * m + c) = 8 * nc * m + 8 * c by rw [Nat.mul_add, Nat.mul_assoc], ← List.drop_drop, List.drop_left' (rowsB_length B nc m)]
      exact rowB_at (B m) nc c r hc
    · exact rowsB_at B nc n m c _ (by omega) hc
theorem bes8_back (x : Int) (h : In64 x) : toI (vls (bes 8 (toU x))) = x := by
  rw [vls_bes, Nat.mod_eq_of_lt (by have := toU_lt x; omega)]
  exact toI_toU x h
theorem told_text {l : LM} (h : l.Ok) : toldL l.text = l := by
  have e0 : (l.text.getD 0 0).toNat = l.nm := by
    show (UInt8.ofNat l.nm).toNat = l.nm
    rw [UInt8.toNat_ofNat']; have := h.nm; omega
  have e1 : (l.text.getD 1 0).toNat = l.nc := by
    show (UInt8.ofNat l.nc).toNat = l.nc
    rw [UInt8.toNat_ofNat']; have := h.nc; omega
  have hd : ∀ k, l.text.drop (2 + k) = (rowB l.N l.nc ++ rowsB l.B l.nc l.nm).drop k := fun k => by
    rw [← List.drop_drop]
    rfl
  unfold toldL
  rw [e0, e1]
  have hB : (fun m c => if m < l.nm ∧ c < l.nc then amt l.text (2 + 8 * (l.nc * (m + 1) + c)) else 0) = l.B := by
    funext m c
    split
    · rename_i hm
      unfold amt
      rw [hd, show 8 * (l.nc * (m + 1) + c) = 8 * l.nc + 8 * (l.nc * m + c) by rw [Nat.mul_succ]; omega, ← List.drop_drop, List.drop_left' (rowB_length l.N l.nc)]
      have := rowsB_at l.B l.nc l.nm m c [] hm.1 hm.2
      rw [List.append_nil] at this
      rw [this, bes8_back _ (h.b m c)]
    · rename_i hm
      exact (h.bz m c hm).symm
  have hN : (fun c => if c < l.nc then amt l.text (2 + 8 * c) else 0) = l.N := by
    funext c
    split
    · rename_i hc
      unfold amt
      rw [hd, rowB_at l.N l.nc c _ hc, bes8_back _ (h.n c)]
    · rename_i hc
      exact (h.nz c hc).symm
  show (⟨l.nm, l.nc, _, _⟩ : LM) = l
  rw [hB, hN]
/-- a ledger is that of its bytes -/
theorem read_text {l : LM} (h : l.Good) : readL l.text = (0, some l) := by
  unfold readL formL
  rw [told_text h.ok, text_length]
  have h1 := h.ok.nm
  have h2 := h.ok.nc
  rw [if_pos (decide_eq_true ⟨by omega, h1.1, h1.2, h2.1, h2.2, rfl⟩), if_pos]
  unfold sumsL
  rw [List.all_eq_true]
  intro c hc
  simpa using h.sum.sum c (List.mem_range.1 hc)
theorem text_inj {l k : LM} (h : l.Ok) (h' : k.Ok) (e : l.text = k.text) : l = k := by rw [← told_text h, e, told_text h']
end Go.Proofs.YtiehbbhjpcnbnaaGreat
namespace Go.Proofs.YtiehbbhjpcnbnaaGreat
open Go.RowKit
set_option linter.unusedVariables false

/-- n currencies from c on, one after the other: what balances are worth, with their haircuts -/
def netF (t : List Cur) (b : Nat → Int) : Nat → Nat → Int → Int × Int
  | 0, _, s => (s, 0)
  | n + 1, c, s => if In64 (worthT (cAt t c) (b c)) ∧ In64 (s + worthT (cAt t c) (b c)) then netF t b n (c + 1) (s + worthT (cAt t c) (b c)) else (0, 3)
/-- likewise: what they are short -/
def shortF (t : List Cur) (b : Nat → Int) : Nat → Nat → Int → Int × Int
  | 0, _, s => (s, 0)
  | n + 1, c, s => if 0 ≤ b c then shortF t b n (c + 1) s else
      if In64 (plainT (cAt t c) (b c)) ∧ In64 (-plainT (cAt t c) (b c)) ∧ In64 (s + -plainT (cAt t c) (b c)) then shortF t b n (c + 1) (s + -plainT (cAt t c) (b c)) else (0, 3)
theorem chain1_yes {x y : Int} (h : In64 (x + y)) : chainL x [y] = (x + y, 0) := by unfold In64 at h; rw [chainL, if_pos h, chainL]
theorem chain1_no {x y : Int} (h : ¬ In64 (x + y)) : chainL x [y] = (0, 3) := by unfold In64 at h; rw [chainL, if_neg h]
theorem fit_in {x : Int} (h : In64 x) : fitV x = x ∧ fitE x = 0 := by unfold In64 at h; unfold fitV fitE; rw [if_pos h, if_pos h]; exact ⟨rfl, rfl⟩
theorem fit_out {x : Int} (h : ¬ In64 x) : fitV x = 0 ∧ fitE x = 3 := by unfold In64 at h; unfold fitV fitE; rw [if_neg h, if_neg h]; exact ⟨rfl, rfl⟩

/-- the worths of n currencies from c on -/
def worths (t : List Cur) (b : Nat → Int) : Nat → Nat → List Int
  | 0, _ => []
  | n + 1, c => worthT (cAt t c) (b c) :: worths t b n (c + 1)
theorem worths_snoc (t : List Cur) (b : Nat → Int) : ∀ n c, worths t b (n + 1) c = worths t b n c ++ [worthT (cAt t (c + n)) (b (c + n))]
  | 0, c => rfl
  | n + 1, c => by
    rw [worths, worths_snoc t b n (c + 1), worths, List.cons_append, show c + 1 + n = c + (n + 1) from by omega]
theorem worths_len (t : List Cur) (b : Nat → Int) : ∀ n c, (worths t b n c).length = n
  | 0, c => rfl
  | n + 1, c => by rw [worths, List.length_cons, worths_len t b n (c + 1)]
theorem chain_step (s z : Int) (zs : List Int) : chainL s (z :: zs) = if In64 (s + z) then chainL (s + z) zs else (0, 3) := rfl
theorem net_chain (t : List Cur) (b : Nat → Int) : ∀ n c s, (∀ i, i < n → In64 (worthT (cAt t (c + i)) (b (c + i)))) → netF t b n c s = chainL s (worths t b n c)
  | 0, c, s, _ => rfl
  | n + 1, c, s, h => by
    have h0 := h 0 (by omega)
    rw [Nat.add_zero] at h0
    rw [netF, worths, chain_step]
    by_cases h1 : In64 (s + worthT (cAt t c) (b c))
    · rw [if_pos ⟨h0, h1⟩, if_pos h1]
      exact net_chain t b n (c + 1) _ fun i hi => by rw [show c + 1 + i = c + (i + 1) from by omega]; exact h (i + 1) (by omega)
    · rw [if_neg (fun e => h1 e.2), if_neg h1]
theorem net_fail (t : List Cur) (b : Nat → Int) : ∀ n c s i, i < n → ¬ In64 (worthT (cAt t (c + i)) (b (c + i))) → netF t b n c s = (0, 3)
  | 0, c, s, i, hi, _ => by omega
  | n + 1, c, s, 0, _, h => by
    rw [Nat.add_zero] at h
    rw [netF, if_neg (fun e => h e.1)]
  | n + 1, c, s, i + 1, hi, h => by
    rw [netF]
    split
    · exact net_fail t b n (c + 1) _ i (by omega) (by rw [show c + 1 + i = c + (i + 1) from by omega]; exact h)
    · rfl
/-- a currency's part of what is short can be told -/
def sOk (t : List Cur) (b : Nat → Int) (i : Nat) : Prop := 0 ≤ b i ∨ In64 (plainT (cAt t i) (b i)) ∧ In64 (-plainT (cAt t i) (b i))
/-- what is short, of n currencies from c on -/
def shorts (t : List Cur) (b : Nat → Int) : Nat → Nat → List Int
  | 0, _ => []
  | n + 1, c => if 0 ≤ b c then shorts t b n (c + 1) else -plainT (cAt t c) (b c) :: shorts t b n (c + 1)
theorem shorts_snoc (t : List Cur) (b : Nat → Int) : ∀ n c, shorts t b (n + 1) c = if 0 ≤ b (c + n) then shorts t b n c else shorts t b n c ++ [-plainT (cAt t (c + n)) (b (c + n))]
  | 0, c => rfl
  | n + 1, c => by
    rw [shorts, shorts_snoc t b n (c + 1), shorts, show c + 1 + n = c + (n + 1) from by omega]
    split <;> split <;> rfl
theorem shorts_len (t : List Cur) (b : Nat → Int) : ∀ n c, (shorts t b n c).length ≤ n
  | 0, c => Nat.le_refl _
  | n + 1, c => by
    have := shorts_len t b n (c + 1)
    rw [shorts]
    split
    · omega
    · rw [List.length_cons]; omega
theorem short_chain (t : List Cur) (b : Nat → Int) : ∀ n c s, (∀ i, i < n → sOk t b (c + i)) → shortF t b n c s = chainL s (shorts t b n c)
  | 0, c, s, _ => rfl
  | n + 1, c, s, h => by
    have h0 := h 0 (by omega)
    have hr : ∀ i, i < n → sOk t b (c + 1 + i) := fun i hi => by rw [show c + 1 + i = c + (i + 1) from by omega]; exact h (i + 1) (by omega)
    rw [Nat.add_zero] at h0
    rw [shortF, shorts]
    by_cases hb : 0 ≤ b c
    · rw [if_pos hb, if_pos hb]; exact short_chain t b n (c + 1) s hr
    · obtain ⟨p1, p2⟩ := h0.resolve_left hb
      rw [if_neg hb, if_neg hb, chain_step]
      by_cases h1 : In64 (s + -plainT (cAt t c) (b c))
      · rw [if_pos ⟨p1, p2, h1⟩, if_pos h1]; exact short_chain t b n (c + 1) _ hr
      · rw [if_neg (fun e => h1 e.2.2), if_neg h1]
theorem short_fail (t : List Cur) (b : Nat → Int) : ∀ n c s i, i < n → ¬ sOk t b (c + i) → shortF t b n c s = (0, 3)
  | 0, c, s, i, hi, _ => by omega
  | n + 1, c, s, 0, _, h => by
    rw [Nat.add_zero] at h
    rw [shortF, if_neg (fun e => h (.inl e)), if_neg (fun e => h (.inr ⟨e.1, e.2.1⟩))]
  | n + 1, c, s, i + 1, hi, h => by
    have hr : ¬ sOk t b (c + 1 + i) := by rw [show c + 1 + i = c + (i + 1) from by omega]; exact h
    rw [shortF]
    split
    · exact short_fail t b n (c + 1) _ i (by omega) hr
    · split
      · exact short_fail t b n (c + 1) _ i (by omega) hr
      · rfl
theorem worths_mem {t : List Cur} {b : Nat → Int} {x : Int} : ∀ {n c : Nat}, x ∈ worths t b n c → ∃ i, i < n ∧ x = worthT (cAt t (c + i)) (b (c + i))
  | 0, c, h => by cases h
  | n + 1, c, h => by
    rw [worths] at h
    rcases List.mem_cons.1 h with rfl | h
    · exact ⟨0, by omega, rfl⟩
    · obtain ⟨i, hi, e⟩ := worths_mem h
      exact ⟨i + 1, by omega, by rw [e, show c + 1 + i = c + (i + 1) from by omega]⟩
theorem shorts_mem {t : List Cur} {b : Nat → Int} {x : Int} : ∀ {n c : Nat}, x ∈ shorts t b n c → ∃ i, i < n ∧ ¬ 0 ≤ b (c + i) ∧ x = -plainT (cAt t (c + i)) (b (c + i))
  | 0, c, h => by cases h
  | n + 1, c, h => by
    rw [shorts] at h
    split at h
    · obtain ⟨i, hi, hb, e⟩ := shorts_mem h
      rw [show c + 1 + i = c + (i + 1) from by omega] at hb e
      exact ⟨i + 1, by omega, hb, e⟩
    · rename_i hb
      rcases List.mem_cons.1 h with rfl | h
      · exact ⟨0, by omega, hb, rfl⟩
      · obtain ⟨i, hi, hb, e⟩ := shorts_mem h
        rw [show c + 1 + i = c + (i + 1) from by omega] at hb e
        exact ⟨i + 1, by omega, hb, e⟩
/-- what a number of the way is, is an amount, and an error is one of two -/
theorem chain_in : ∀ (zs : List Int) (s : Int), In64 s → In64 (chainL s zs).1 ∧ ((chainL s zs).2 = 0 ∨ (chainL s zs).2 = 3)
  | [], s, h => ⟨h, .inl rfl⟩
  | z :: zs, s, h => by
    rw [chain_step]
    split
    · rename_i h1; exact chain_in zs _ h1
    · exact ⟨by decide, .inr rfl⟩
theorem net_in (t : List Cur) (b : Nat → Int) : ∀ n c s, In64 s → In64 (netF t b n c s).1 ∧ ((netF t b n c s).2 = 0 ∨ (netF t b n c s).2 = 3)
  | 0, c, s, h => ⟨h, .inl rfl⟩
  | n + 1, c, s, h => by
    rw [netF]
    split
    · rename_i h1; exact net_in t b n _ _ h1.2
    · exact ⟨by decide, .inr rfl⟩
theorem short_in (t : List Cur) (b : Nat → Int) : ∀ n c s, In64 s → In64 (shortF t b n c s).1 ∧ ((shortF t b n c s).2 = 0 ∨ (shortF t b n c s).2 = 3)
  | 0, c, s, h => ⟨h, .inl rfl⟩
  | n + 1, c, s, h => by
    rw [shortF]
    split
    · exact short_in t b n _ _ h
    · split
      · rename_i h1; exact short_in t b n _ _ h1.2.2
      · exact ⟨by decide, .inr rfl⟩
/-- what is plainly worth less than nothing -/
theorem plain_neg {c : Cur} {a : Int} (ho : oobB c = false) (h : ¬ 0 ≤ a) : plainT c a ≤ 0 := by
  obtain ⟨r0, _⟩ := oob_no ho
  have h2 : 0 ≤ (-a) * c.rate := Int.mul_nonneg (by omega) (by omega)
  have h1 : a * c.rate ≤ 0 := by rw [Int.neg_mul] at h2; omega
  unfold plainT muldiv
  simp only [Bool.false_eq_true, if_false]
  omega
theorem abs_neg {x : Int} (h : x ≤ 0) : absI x = -x := by unfold absI; split <;> omega
/-- both depend on the table's currencies and balances alone -/
theorem net_congr {t : List Cur} {b b' : Nat → Int} : ∀ n c s, (∀ i, c ≤ i → i < c + n → b i = b' i) → netF t b n c s = netF t b' n c s
  | 0, c, s, _ => rfl
  | n + 1, c, s, h => by
    rw [netF, netF, h c (by omega) (by omega)]
    split
    · exact net_congr n _ _ fun i hi hj => h i (by omega) (by omega)
    · rfl
theorem short_congr {t : List Cur} {b b' : Nat → Int} : ∀ n c s, (∀ i, c ≤ i → i < c + n → b i = b' i) → shortF t b n c s = shortF t b' n c s
  | 0, c, s, _ => rfl
  | n + 1, c, s, h => by
    have hr := fun s => short_congr (t := t) n (c + 1) s fun i hi hj => h i (by omega) (by omega)
    rw [shortF, shortF, h c (by omega) (by omega), hr, hr]
end Go.Proofs.YtiehbbhjpcnbnaaGreat
namespace Go.Proofs.YtiehbbhjpcnbnaaGreat
open Go.RowKit
set_option linter.unusedVariables false

def knownC (nc : Nat) (ps : List Pst) : Bool := ps.all fun q => decide (0 ≤ q.c ∧ q.c < nc)
/-- a member's postings, done to its balances -/
def goI (m : Int) : (Nat → Int) → List Pst → Option (Nat → Int)
  | b, [] => some b
  | b, q :: r => if q.m = m then (if In64 (b q.c.toNat + q.a) then goI m (upd b q.c.toNat (b q.c.toNat + q.a)) r else none) else goI m b r
def bothM (t : List Cur) (nc : Nat) (b : Nat → Int) : Int × Int × Int := if (netF t b nc 0 0).2 = 0 ∧ (shortF t b nc 0 0).2 = 0 then ((netF t b nc 0 0).1, (shortF t b nc 0 0).1, 0) else (0, 0, 3)
def ifM (t : List Cur) (nc : Nat) (b : Nat → Int) (m : Int) (ps : List Pst) : Int × Int × Int := if knownC nc ps then (match goI m b ps with | none => (0, 0, 3) | some d => bothM t nc d) else (0, 0, 1)
theorem goI_step {ps : List Pst} {k : Nat} {q : Pst} (hq : ps[k]? = some q) (m : Int) (d : Nat → Int) : goI m d (ps.drop k) = if q.m = m then (if In64 (d q.c.toNat + q.a) then goI m (upd d q.c.toNat (d q.c.toNat + q.a)) (ps.drop (k + 1)) else none) else goI m d (ps.drop (k + 1)) := by
  obtain ⟨hk, e⟩ := List.getElem?_eq_some_iff.1 hq
  rw [List.drop_eq_getElem_cons hk, e]
  rfl
def RetM (r : Int × Int × Int) (w : World) (e : Ending) (w' : World) : Prop := e = .returned (.tuple #[.int .i64 r.1, .int .i64 r.2.1, .int .i64 r.2.2]) ∧ Below w.heap.size w w'
theorem ifM_known {t : List Cur} {nc : Nat} {b d : Nat → Int} {m : Int} {ps : List Pst} (h : knownC nc ps = true) (hg : goI m b ps = some d) : ifM t nc b m ps = bothM t nc d := by unfold ifM; rw [if_pos h, hg]
theorem ifM_over {t : List Cur} {nc : Nat} {b : Nat → Int} {m : Int} {ps : List Pst} (h : knownC nc ps = true) (hg : goI m b ps = none) : ifM t nc b m ps = (0, 0, 3) := by unfold ifM; rw [if_pos h, hg]
theorem ifM_not {t : List Cur} {nc : Nat} {b : Nat → Int} {m : Int} {ps : List Pst} (h : knownC nc ps = false) : ifM t nc b m ps = (0, 0, 1) := by unfold ifM; rw [if_neg (by rw [h]; decide)]
theorem known_all {nc : Nat} {ps : List Pst} (h : knownC nc ps = true) : ∀ q ∈ ps, 0 ≤ q.c ∧ q.c < nc := fun q hq => by simpa using List.all_eq_true.1 h q hq
theorem known_yes {nc : Nat} {ps : List Pst} (h : ∀ q ∈ ps, 0 ≤ q.c ∧ q.c < nc) : knownC nc ps = true := List.all_eq_true.2 fun q hq => by simpa using h q hq
theorem known_no {nc : Nat} {ps : List Pst} {q : Pst} (hq : q ∈ ps) (h : ¬ (0 ≤ q.c ∧ q.c < nc)) : knownC nc ps = false := by
  cases e : knownC nc ps with
  | false => rfl
  | true => exact absurd (known_all e q hq) h
end Go.Proofs.YtiehbbhjpcnbnaaGreat
namespace Go.Proofs.YtiehbbhjpcnbnaaGreat
set_option linter.unusedVariables false

/-- the power of ten thousand -/
def pw (n : Nat) : Int := 10000 ^ n
theorem pw_zero : pw 0 = 1 := rfl
theorem pw_succ (n : Nat) : pw (n + 1) = 10000 * pw n := by unfold pw; rw [Int.pow_succ, Int.mul_comm]
theorem pw_pos (n : Nat) : 1 ≤ pw n := by
  induction n with
  | zero => simp [pw]
  | succ n ih => rw [pw_succ]; omega
theorem pw_add (m n : Nat) : pw (m + n) = pw m * pw n := by unfold pw; rw [Int.pow_add]
theorem pw_mono {m n : Nat} (h : m ≤ n) : pw m ≤ pw n := by
  obtain ⟨k, rfl⟩ := Nat.exists_eq_add_of_le h
  induction k with
  | zero => simp
  | succ k ih => rw [← Nat.add_assoc, pw_succ]; have := ih (by omega); have := pw_pos (m + k); omega

/-- the number of the first n digits -/
def dv (f : Nat → Int) : Nat → Int
  | 0 => 0
  | n + 1 => dv f n + f n * pw n
def Digs (f : Nat → Int) : Prop := ∀ i, 0 ≤ f i ∧ f i ≤ 9999

theorem dig_mul {d n : Int} (h0 : 0 ≤ d) (h1 : d ≤ 9999) (p : 1 ≤ n) : 0 ≤ d * n ∧ d * n ≤ 9999 * n :=
  ⟨Int.mul_nonneg h0 (by omega), Int.mul_le_mul_of_nonneg_right h1 (by omega)⟩
theorem dv_bd {f : Nat → Int} (hf : Digs f) : ∀ n, 0 ≤ dv f n ∧ dv f n < pw n
  | 0 => by simp [dv, pw]
  | n + 1 => by
    obtain ⟨h1, h2⟩ := dv_bd hf n
    obtain ⟨d0, d1⟩ := hf n
    obtain ⟨m0, m1⟩ := dig_mul d0 d1 (pw_pos n)
    rw [dv, pw_succ]
    omega
theorem dv_congr {f g : Nat → Int} : ∀ n, (∀ i, i < n → f i = g i) → dv f n = dv g n
  | 0, _ => rfl
  | n + 1, h => by rw [dv, dv, dv_congr n (fun i hi => h i (by omega)), h n (by omega)]
theorem dv_ext {f : Nat → Int} {m n : Nat} (h : m ≤ n) (hz : ∀ i, m ≤ i → f i = 0) : dv f n = dv f m := by
  obtain ⟨k, rfl⟩ := Nat.exists_eq_add_of_le h
  induction k with
  | zero => rfl
  | succ k ih => rw [← Nat.add_assoc, dv, ih (by omega), hz (m + k) (by omega), Int.zero_mul, Int.add_zero]
theorem dv_mono {f : Nat → Int} (hf : Digs f) {m n : Nat} (h : m ≤ n) : dv f m ≤ dv f n := by
  obtain ⟨k, rfl⟩ := Nat.exists_eq_add_of_le h
  induction k with
  | zero => exact Int.le_refl _
  | succ k ih =>
    obtain ⟨d0, d1⟩ := hf (m + k)
    have := (dig_mul d0 d1 (pw_pos (m + k))).1
    rw [← Nat.add_assoc, dv]
    have := ih (by omega)
    omega
/-- digits that agree from k on -/
theorem dv_agree {f g : Nat → Int} {k n : Nat} (h : k ≤ n) (he : ∀ i, k ≤ i → i < n → f i = g i) : dv f n - dv g n = dv f k - dv g k := by
  obtain ⟨j, rfl⟩ := Nat.exists_eq_add_of_le h
  induction j with
  | zero => rfl
  | succ j ih =>
    rw [← Nat.add_assoc, dv, dv, he (k + j) (by omega) (by omega)]
    have := ih (by omega) (fun i h1 h2 => he i h1 (by omega))
    omega
theorem dv_first {f g : Nat → Int} (hf : Digs f) (hg : Digs g) {k n : Nat} (h : k < n) (he : ∀ i, k < i → i < n → f i = g i) (hk : g k < f k) : dv g n < dv f n := by
  have h1 := dv_agree (f := f) (g := g) (k := k + 1) (n := n) h (fun i a b => he i (by omega) b)
  have h2 := dv_bd hf k
  have h3 := dv_bd hg k
  rw [dv, dv] at h1
  have h4 : (f k - g k) * pw k ≥ 1 * pw k := Int.mul_le_mul_of_nonneg_right (by omega) (by have := pw_pos k; omega)
  rw [Int.sub_mul, Int.one_mul] at h4
  omega
/-- a digit that is not 0 is seen in the number -/
theorem dv_zero {f : Nat → Int} (hf : Digs f) {m n : Nat} (hm : dv f n < pw m) : ∀ i, m ≤ i → i < n → f i = 0 := by
  intro i h1 h2
  have h3 := dv_mono hf (show i + 1 ≤ n from h2)
  have h4 := (dv_bd hf i).1
  obtain ⟨d0, d1⟩ := hf i
  have h5 := pw_mono h1
  have h6 := pw_pos i
  apply Int.le_antisymm ?_ d0
  apply Int.not_lt.1
  intro hlt
  have h7 : 1 * pw i ≤ f i * pw i := Int.mul_le_mul_of_nonneg_right (by omega) (by omega)
  rw [dv] at h3
  omega

/-- a list's digits -/
def dg (l : List Int) : Nat → Int := fun i => l.getD i 0
def val (l : List Int) : Int := dv (dg l) l.length
theorem dg_out {l : List Int} {i : Nat} (h : l.length ≤ i) : dg l i = 0 := by unfold dg; rw [List.getD_eq_getElem?_getD, List.getElem?_eq_none h]; rfl
theorem val_ext {l : List Int} {n : Nat} (h : l.length ≤ n) : dv (dg l) n = val l := dv_ext h (fun i hi => dg_out hi)
theorem val_bd {l : List Int} (hd : Digs (dg l)) : 0 ≤ val l ∧ val l < pw l.length := dv_bd hd _
theorem val_take {l : List Int} {n : Nat} (h : n ≤ l.length) (hz : ∀ i, n ≤ i → dg l i = 0) : val (l.take n) = val l := by
  unfold val
  rw [dv_ext h hz, List.length_take, Nat.min_eq_left h]
  apply dv_congr
  intro i hi
  unfold dg
  rw [List.getD_eq_getElem?_getD, List.getD_eq_getElem?_getD, List.getElem?_take, if_pos hi]
theorem dg_snoc_lt {l : List Int} {d : Int} {i : Nat} (h : i < l.length) : dg (l ++ [d]) i = dg l i := by
  unfold dg; rw [List.getD_eq_getElem?_getD, List.getD_eq_getElem?_getD, List.getElem?_append_left h]
theorem dg_snoc_eq {l : List Int} {d : Int} : dg (l ++ [d]) l.length = d := by
  unfold dg; rw [List.getD_eq_getElem?_getD, List.getElem?_append_right (Nat.le_refl _)]; simp
theorem val_snoc (l : List Int) (d : Int) : val (l ++ [d]) = val l + d * pw l.length := by
  unfold val
  rw [show (l ++ [d]).length = l.length + 1 from by simp, dv, dg_snoc_eq, dv_congr l.length (fun i hi => dg_snoc_lt hi)]
theorem digs_snoc {l : List Int} {d : Int} (h : Digs (dg l)) (h0 : 0 ≤ d) (h1 : d ≤ 9999) : Digs (dg (l ++ [d])) := by
  intro i
  rcases Nat.lt_trichotomy i l.length with hi | hi | hi
  · rw [dg_snoc_lt hi]; exact h i
  · rw [hi, dg_snoc_eq]; exact ⟨h0, h1⟩
  · rw [dg_out (by simp; omega)]; exact ⟨by decide, by decide⟩
theorem digs_nil : Digs (dg []) := fun i => by unfold dg; simp
theorem digs_take {l : List Int} (h : Digs (dg l)) (n : Nat) : Digs (dg (l.take n)) := by
  intro i
  by_cases hi : i < n
  · have : dg (l.take n) i = dg l i := by unfold dg; rw [List.getD_eq_getElem?_getD, List.getD_eq_getElem?_getD, List.getElem?_take, if_pos hi]
    rw [this]; exact h i
  · rw [dg_out (by simp; omega)]; exact ⟨by decide, by decide⟩
/-- a digit ahead of the others -/
theorem dv_shift (f : Nat → Int) : ∀ n, dv f (n + 1) = f 0 + 10000 * dv (fun i => f (i + 1)) n
  | 0 => by simp [dv, pw]
  | n + 1 => by
    rw [dv, dv_shift f n, dv, pw_succ, Int.mul_add]
    rw [show f (n + 1) * (10000 * pw n) = 10000 * (f (n + 1) * pw n) from by rw [Int.mul_left_comm]]
    omega
theorem val_cons (d : Int) (l : List Int) : val (d :: l) = d + 10000 * val l := by
  unfold val
  rw [List.length_cons, dv_shift]
  rfl
theorem val_nil : val [] = 0 := rfl
/-- one digit is set -/
theorem dv_set {f g : Nat → Int} {k n : Nat} (hk : k < n) (h : ∀ i, i ≠ k → g i = f i) : dv g n = dv f n + (g k - f k) * pw k := by
  have h1 := dv_agree (f := g) (g := f) (k := k + 1) (n := n) hk (fun i a b => h i (by omega))
  rw [dv, dv, dv_congr k (fun i hi => h i (by omega))] at h1
  rw [Int.sub_mul]
  omega
end Go.Proofs.YtiehbbhjpcnbnaaGreat
namespace Go.Proofs.YtiehbbhjpcnbnaaGreat
open Go.RowKit
set_option linter.unusedVariables false

theorem Tryz.info3 : (Tryz.prog.info? 3).map (fun i => (i.zero, i.size, i.bytes)) = some (some (.int .i64 0), 1, 8) := by kernel_rfl

/-- a slice's digits, in a world -/
def DRow (w : World) (p : Option Addr) (len : Nat) (ds : List Int) : Prop :=
  ds.length = len ∧ Digs (dg ds) ∧ (len = 0 ∨ ∃ b off, p = some ⟨b, off, none⟩ ∧ b < w.heap.size ∧ ∀ i, i < len → w.cell? ⟨b, off + i, none⟩ = some (.int .i64 (dg ds i)))
theorem DRow.kept {w w' : World} {p : Option Addr} {len : Nat} {ds : List Int} (h : DRow w p len ds) (hb : Below w.heap.size w w') : DRow w' p len ds := by
  obtain ⟨h1, h2, h4⟩ := h
  refine ⟨h1, h2, ?_⟩
  rcases h4 with h4 | ⟨b, off, e, hlt, hc⟩
  · exact .inl h4
  · exact .inr ⟨b, off, e, Nat.lt_of_lt_of_le hlt hb.size, fun i hi => (hb.cell (p := ⟨b, off + i, none⟩) hlt).trans (hc i hi)⟩
theorem DRow.nil (w : World) (p : Option Addr) : DRow w p 0 [] := ⟨rfl, digs_nil, .inl rfl⟩
theorem DRow.taken {w : World} {p : Option Addr} {len n : Nat} {ds : List Int} (h : DRow w p len ds) (hn : n ≤ len) : DRow w p n (ds.take n) := by
  obtain ⟨h1, h2, h4⟩ := h
  refine ⟨by simp; omega, digs_take h2 n, ?_⟩
  rcases h4 with h4 | ⟨b, off, e, hlt, hc⟩
  · exact .inl (by omega)
  · refine .inr ⟨b, off, e, hlt, fun i hi => ?_⟩
    rw [hc i (by omega)]
    unfold dg
    rw [List.getD_eq_getElem?_getD, List.getD_eq_getElem?_getD, List.getElem?_take, if_pos hi]

/-- with a sign -/
def sgB (n : Bool) (q : Int) : Int := if n then -q else q
/-- a value that is an exact number, of at most L digits, none 0 at the end -/
def IsB (w : World) (v : Value) (L : Nat) (N : Int) : Prop :=
  ∃ (neg : Bool) (p : Option Addr) (len cap : Nat) (ds : List Int), v = .agg #[.bool neg, .slice p len cap] ∧ DRow w p len ds ∧ len ≤ cap ∧ (p = none → cap = 0) ∧ len ≤ L ∧ sgB neg (val ds) = N ∧ (ds = [] → neg = false) ∧ (0 < len → dg ds (len - 1) ≠ 0)
theorem IsB.kept {w w' : World} {v : Value} {L : Nat} {N : Int} (h : IsB w v L N) (hb : Below w.heap.size w w') : IsB w' v L N := by
  obtain ⟨neg, p, len, cap, ds, h1, h2, h3⟩ := h
  exact ⟨neg, p, len, cap, ds, h1, h2.kept hb, h3⟩
/-- what a call returns: an exact number -/
def RetB (w : World) (L : Nat) (N : Int) (e : Ending) (w' : World) : Prop := ∃ v, e = .returned v ∧ IsB w' v L N ∧ Below w.heap.size w w'

/-- a row of the call's own holds digits -/
theorem own_drow {w : World} {base : Nat} {v : Value} {n : Nat} {ds : List Int} (h : w.ownsRow base 3 1 v n (ds.map (.int .i64))) (hd : Digs (dg ds)) :
    ∃ p cap, v = .slice p n cap ∧ n ≤ cap ∧ (p = none → cap = 0) ∧ DRow w p n ds ∧ ∀ b off, p = some ⟨b, off, none⟩ → base ≤ b := by
  have hl : ds.length = n := by have := h.1; simpa using this
  rcases h.2 with ⟨rfl, h0⟩ | ⟨g, cap, cur, rfl, hg, hh, hn, hcm, hcs, htake⟩
  · subst h0
    exact ⟨none, 0, rfl, Nat.le_refl _, fun _ => rfl, ⟨hl, hd, .inl rfl⟩, fun _ _ h => by cases h⟩
  · refine ⟨_, cap, rfl, hn, (fun h => by cases h), ⟨hl, hd, ?_⟩, fun b off h => by simp at h; omega⟩
    refine .inr ⟨g, 0, rfl, (Array.getElem?_eq_some_iff.1 hh).1, fun i hi => ?_⟩
    have hk := h.cells (g := g) rfl i (.int .i64 (dg ds i)) (by
      rw [List.getElem?_map, List.getElem?_eq_getElem (by omega)]
      unfold dg
      rw [List.getD_eq_getElem?_getD, List.getElem?_eq_getElem (by omega)]
      rfl)
    have ha : (⟨g, 0, none⟩ : Addr).add i = ⟨g, 0 + i, none⟩ := by unfold Addr.add; split <;> simp_all
    rw [ha] at hk
    exact hk

/-- an append whose run is known -/
theorem wpList_app {P : Program} {w : World} {ops : Array Oper} {rest : List Oper} {o : Oper} {a : Act} {Q : Exit → Act → World → Prop} (hgd : o.guard = none) (s x : Operand) (t t' : TypeId)
    (ho : o.op = .call { callee := .builtin .append, args := #[s, x], argTypes := #[t, t'] }) (v y v' : Value) (w' : World) (hs : a.eval s = v) (hx : a.eval x = y)
    (hr : (Builtin.append_ #[t, t'] o.type #[v, y]).run P w = .ok v' w') (h : wpList P ops Q rest (a.put o.dst v') w') : wpList P ops Q (o :: rest) a w :=
  wpList_plain hgd fun _ hK => by
    unfold Oper.wp execOp
    simp only [ho, resolve, invoke, builtin, Sem.run_bind, Sem.run_pure, Result.andThen_ok, List.map_toArray, List.map_cons, List.map_nil, hs, hx, hr]
    exact hK _ _ h
/-- one digit more on a row of the call's own -/
theorem append_digit (wr : World) (B : Nat) (v : Value) (ds : List Int) (d : Int) (hown : wr.ownsRow B 3 1 v ds.length (ds.map (.int .i64))) (hB : B ≤ wr.heap.size) (hl : ds.length ≤ 1000000) :
    ∃ g c w', (Builtin.append_ #[39, 39] 39 #[v, .slice (some ⟨wr.heap.size, 0, none⟩) 1 1]).run Tryz.prog (wr.alloc (.cells #[.int .i64 d] 3)) = .ok (.slice (some ⟨g, 0, none⟩) (ds.length + 1) c) w' ∧
      w'.ownsRow B 3 1 (.slice (some ⟨g, 0, none⟩) (ds.length + 1) c) (ds ++ [d]).length ((ds ++ [d]).map (.int .i64)) ∧ Below B wr w' := by
  obtain ⟨i0, hi, hz0, hz1, hz2⟩ := info_parts Tryz.info3
  obtain ⟨v', w', hrun, hown', hgrow, _⟩ := run_append_own (P := Tryz.prog) (wr.alloc (.cells #[.int .i64 d] 3)) B 39 39 3 i0 (.int .i64 0) 1 8 Tryz.underlying39 hi hz0 hz1 hz2 rfl (by decide)
    v ds.length (ds.map (.int .i64)) (hown.alloc _) ⟨wr.heap.size, 0, none⟩ 1 1 [.int .i64 d] rfl (by
      intro j u hu
      cases j with
      | zero =>
        simp at hu
        subst hu
        have ha : (⟨wr.heap.size, 0, none⟩ : Addr).add 0 = ⟨wr.heap.size, 0, none⟩ := by unfold Addr.add; split <;> simp_all
        rw [ha]
        go_simp
      | succ j => simp at hu) (by
      intro u hu
      simp at hu
      subst hu
      rfl) (by unfold maxLen; omega) (by omega) (by simp; omega)
  obtain ⟨g, c, rfl⟩ : ∃ g c, v' = .slice (some ⟨g, 0, none⟩) (ds.length + 1) c := by
    rcases hown'.2 with ⟨_, h0⟩ | ⟨g, cap, cur, e, _⟩
    · omega
    · exact ⟨g, cap, e⟩
  refine ⟨g, c, w', hrun, ?_, ?_⟩
  · rw [List.length_append, List.map_append]
    exact hown'
  · refine ((Below.refl _ _).alloc hB _).grown hgrow (by simp; omega) (fun k hk => ?_)
    exact (hown.lt k hk).1

theorem drow_store {w : World} {p : Option Addr} {len : Nat} {ds : List Int} (h : DRow w p len ds) {a : Addr} (hne : ∀ b off, p = some ⟨b, off, none⟩ → b ≠ a.block) (u : Value) : DRow (w.setCell a u) p len ds := by
  obtain ⟨h1, h2, h4⟩ := h
  refine ⟨h1, h2, ?_⟩
  rcases h4 with h4 | ⟨b, off, e, hlt, hc⟩
  · exact .inl h4
  · refine .inr ⟨b, off, e, by simpa [World.setCell] using hlt, fun i hi => ?_⟩
    rw [World.cell?_of_block (w := w) (Below.heap_setCell w a u b (hne b off e))]
    exact hc i hi

/-- what the digits of n that are told, and what is left of n, come to -/
structure OfInv (n0 m : Int) (ds : List Int) : Prop where
  digs : Digs (dg ds)
  eq : (if n0 < 0 then -n0 else n0) = val ds + (if m < 0 then -m else m) * pw ds.length
  sign : (n0 < 0 → m ≤ 0) ∧ (0 ≤ n0 → 0 ≤ m)
  last : m = 0 → 0 < ds.length → dg ds (ds.length - 1) ≠ 0
  none : ds = [] → m = n0
theorem OfInv.first (n0 : Int) : OfInv n0 n0 [] := ⟨digs_nil, by rw [val_nil]; simp [pw], by omega, fun _ h => by simp at h, fun _ => rfl⟩
theorem OfInv.short {n0 m : Int} {ds : List Int} (h : OfInv n0 m ds) (hn : -9223372036854775808 ≤ n0 ∧ n0 ≤ 9223372036854775807) (hm : m ≠ 0) : ds.length ≤ 4 := by
  apply Nat.le_of_not_lt
  intro hl
  have h1 := h.eq
  have h2 := (val_bd h.digs).1
  have h3 := pw_mono (show 5 ≤ ds.length from hl)
  have h4 : pw 5 = 100000000000000000000 := by decide
  have h5 : 1 * pw ds.length ≤ (if m < 0 then -m else m) * pw ds.length := Int.mul_le_mul_of_nonneg_right (by split <;> omega) (by omega)
  split at h1 <;> omega
theorem OfInv.next {n0 m : Int} {ds : List Int} (h : OfInv n0 m ds) (hm : m ≠ 0) (d : Int) (hd : d = (if m < 0 then -m else m) % 10000) (m' : Int) (hm' : m' = m.tdiv 10000) : OfInv n0 m' (ds ++ [d]) := by
  have e1 : (if m' < 0 then -m' else m') = (if m < 0 then -m else m) / 10000 := by
    rw [hm']
    by_cases hneg : m < 0
    · rw [if_pos hneg, show m = -(-m) from by omega, Int.neg_tdiv, Int.tdiv_eq_ediv_of_nonneg (by omega)]
      split <;> omega
    · rw [if_neg hneg, Int.tdiv_eq_ediv_of_nonneg (by omega), if_neg (by omega)]
  have e2 : (m < 0 → m' ≤ 0) ∧ (0 ≤ m → 0 ≤ m') := by
    rw [hm']
    refine ⟨fun hneg => ?_, fun hpos => ?_⟩
    · rw [show m = -(-m) from by omega, Int.neg_tdiv, Int.tdiv_eq_ediv_of_nonneg (by omega)]; omega
    · rw [Int.tdiv_eq_ediv_of_nonneg (by omega)]; omega
  have hs := h.sign
  have hq := h.eq
  generalize ha : (if m < 0 then -m else m) = a at *
  have a0 : 0 < a := by rw [← ha]; split <;> omega
  refine ⟨digs_snoc h.digs (by omega) (by omega), ?_, by omega, ?_, fun h => by simp at h⟩
  · rw [hq, val_snoc, e1, List.length_append, List.length_singleton, pw_succ]
    have e3 : a = d + 10000 * (a / 10000) := by omega
    have e4 : a * pw ds.length = d * pw ds.length + a / 10000 * (10000 * pw ds.length) := by
      rw [Int.mul_left_comm, ← Int.mul_assoc, ← Int.add_mul, ← e3]
    rw [e4]
    omega
  · intro h0 _
    rw [List.length_append, List.length_singleton, Nat.add_sub_cancel, dg_snoc_eq]
    rw [h0] at e1
    simp at e1
    omega

theorem RetB.more {w : World} {L L' : Nat} {N N' : Int} {e : Ending} {w' : World} (h : RetB w L N e w') (hL : L ≤ L') (hN : N = N') : RetB w L' N' e w' := by
  obtain ⟨v, he, ⟨neg, p, len, cap, ds, h1, h2, h3, h4, h5, h6, h7⟩, hb⟩ := h
  exact ⟨v, he, ⟨neg, p, len, cap, ds, h1, h2, h3, h4, Nat.le_trans h5 hL, h6.trans hN, h7⟩, hb⟩

end Go.Proofs.YtiehbbhjpcnbnaaGreat
namespace Go.Proofs.YtiehbbhjpcnbnaaGreat
open Go.RowKit
set_option linter.unusedVariables false

/-- which is greater -/
def cmp3 (a b : Int) : Int := if b < a then 1 else if a < b then -1 else 0

/-- the cells of two Bigs, each in a block of its own -/
def TwoB (w : World) (A B : Nat) (na nb : Bool) (pa pb : Option Addr) (la lb ca cb : Nat) : Prop :=
  w.cell? ⟨A, 0, none⟩ = some (.bool na) ∧ w.cell? ⟨A, 1, none⟩ = some (.slice pa la ca) ∧ w.cell? ⟨B, 0, none⟩ = some (.bool nb) ∧ w.cell? ⟨B, 1, none⟩ = some (.slice pb lb cb)
theorem TwoB.kept {w w' : World} {A B n : Nat} {na nb : Bool} {pa pb : Option Addr} {la lb ca cb : Nat} (h : TwoB w A B na nb pa pb la lb ca cb) (hb : Below n w w') (hA : A < n) (hB : B < n) : TwoB w' A B na nb pa pb la lb ca cb :=
  ⟨(hb.cell (p := ⟨A, 0, none⟩) hA).trans h.1, (hb.cell (p := ⟨A, 1, none⟩) hA).trans h.2.1, (hb.cell (p := ⟨B, 0, none⟩) hB).trans h.2.2.1, (hb.cell (p := ⟨B, 1, none⟩) hB).trans h.2.2.2⟩

/-- behind a call's beginning: its two Bigs lie in the first two blocks of its own; what was there is as it was -/
structure Hold (w W : World) (na nb : Bool) (pa pb : Option Addr) (la lb ca cb : Nat) (da db : List Int) : Prop where
  two : TwoB W w.heap.size (w.heap.size + 1) na nb pa pb la lb ca cb
  size : w.heap.size + 1 < W.heap.size
  bel : Below w.heap.size w W
  ra : DRow w pa la da
  rb : DRow w pb lb db
section
variable {w W W' : World} {na nb : Bool} {pa pb : Option Addr} {la lb ca cb : Nat} {da db : List Int}
theorem Hold.a (h : Hold w W na nb pa pb la lb ca cb da db) : DRow W pa la da := h.ra.kept h.bel
theorem Hold.b (h : Hold w W na nb pa pb la lb ca cb da db) : DRow W pb lb db := h.rb.kept h.bel
theorem Hold.keptTo {n : Nat} (h : Hold w W na nb pa pb la lb ca cb da db) (hb : Below n W W') (hn : w.heap.size + 2 ≤ n) : Hold w W' na nb pa pb la lb ca cb da db :=
  ⟨h.two.kept hb (by omega) (by omega), Nat.lt_of_lt_of_le h.size hb.size, h.bel.trans (hb.mono (by omega)), h.ra, h.rb⟩
theorem Hold.kept (h : Hold w W na nb pa pb la lb ca cb da db) (hb : Below W.heap.size W W') : Hold w W' na nb pa pb la lb ca cb da db := h.keptTo hb h.size
theorem Hold.drew (h : Hold w W na nb pa pb la lb ca cb da db) : Hold w W.drew na nb pa pb la lb ca cb da db := ⟨h.two, h.size, h.bel.drew, h.ra, h.rb⟩
end
end Go.Proofs.YtiehbbhjpcnbnaaGreat
namespace Go.Proofs.YtiehbbhjpcnbnaaGreat
open Go.RowKit
set_option linter.unusedVariables false

/-- a sum, digit by digit, with a carry -/
structure AddInv (f g : Nat → Int) (i : Nat) (c : Int) (os : List Int) : Prop where
  len : os.length = i
  digs : Digs (dg os)
  c0 : 0 ≤ c
  c1 : c ≤ 1
  eq : val os + c * pw i = dv f i + dv g i
theorem AddInv.first (f g : Nat → Int) : AddInv f g 0 0 [] := ⟨rfl, digs_nil, by omega, by omega, by rw [val_nil]; simp [dv]⟩
theorem AddInv.next {f g : Nat → Int} {i : Nat} {c : Int} {os : List Int} (h : AddInv f g i c os) (hf : Digs f) (hg : Digs g) : AddInv f g (i + 1) ((c + f i + g i) / 10000) (os ++ [(c + f i + g i) % 10000]) := by
  have a := hf i
  have b := hg i
  have c0 := h.c0
  have c1 := h.c1
  refine ⟨by rw [List.length_append, h.len]; rfl, digs_snoc h.digs (by omega) (by omega), by omega, by omega, ?_⟩
  rw [val_snoc, h.len, dv, dv, pw_succ]
  have e := h.eq
  have e1 : (c + f i + g i) * pw i = c * pw i + f i * pw i + g i * pw i := by rw [Int.add_mul, Int.add_mul]
  have e2 : (c + f i + g i) * pw i = (c + f i + g i) % 10000 * pw i + (c + f i + g i) / 10000 * (10000 * pw i) := by
    rw [Int.mul_left_comm, ← Int.mul_assoc, ← Int.add_mul, Int.emod_add_mul_ediv]
  omega
theorem AddInv.last {da db : List Int} {M : Nat} {c : Int} {os : List Int} (h : AddInv (dg da) (dg db) (M + 1) c os) (ha : Digs (dg da)) (hb : Digs (dg db)) (la : da.length ≤ M) (lb : db.length ≤ M) : val os = val da + val db := by
  have e := h.eq
  rw [val_ext (by omega), val_ext (by omega), pw_succ] at e
  have a1 := (dv_bd ha M).2
  have b1 := (dv_bd hb M).2
  rw [val_ext la] at a1
  rw [val_ext lb] at b1
  have o := (val_bd h.digs).1
  have c0 := h.c0
  have c1 := h.c1
  have p := pw_pos M
  rcases (by omega : c = 0 ∨ c = 1) with hc | hc
  · rw [hc] at e; omega
  · rw [hc] at e; omega

theorem grown_of_below {W W' : World} (hb : Below W.heap.size W W') : W.grownBy W' none := ⟨hb.os, hb.tape, hb.output, hb.size, fun k hk _ => hb.block k hk⟩
end Go.Proofs.YtiehbbhjpcnbnaaGreat
