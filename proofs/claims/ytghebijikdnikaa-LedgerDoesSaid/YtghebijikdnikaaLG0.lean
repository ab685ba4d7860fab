/- Ledgers, plainly: balances, nostros, batches, their bytes; that sums are kept; there and back. No Go text. -/
import Derived.Test.YtghebijikdnikaaW0
import Derived.Test.YtghebijikdnikaaE0
namespace Go.Proofs.Ytghebijikdnikaa
set_option linter.unusedVariables false

/-- a ledger: how many members and currencies, the balances, the nostros -/
structure LM where
  nm : Nat
  nc : Nat
  B : Nat → Nat → Int
  N : Nat → Int
def In64 (x : Int) : Prop := -9223372036854775808 ≤ x ∧ x ≤ 9223372036854775807
instance (x : Int) : Decidable (In64 x) := by unfold In64; exact inferInstance
/-- f, but x at i, j -/
def upd2 (f : Nat → Nat → Int) (i j : Nat) (x : Int) : Nat → Nat → Int := fun a b => if a = i ∧ b = j then x else f a b
theorem upd2_same (f : Nat → Nat → Int) (i j : Nat) (x : Int) : upd2 f i j x i j = x := if_pos ⟨rfl, rfl⟩
theorem upd2_other (f : Nat → Nat → Int) {i j a b : Nat} (x : Int) (h : ¬ (a = i ∧ b = j)) : upd2 f i j x a b = f a b := if_neg h
theorem upd2_twice (f : Nat → Nat → Int) (i j : Nat) (x y : Int) : upd2 (upd2 f i j x) i j y = upd2 f i j y := by
  funext a b; unfold upd2; split <;> simp_all
theorem upd2_self (f : Nat → Nat → Int) (i j : Nat) : upd2 f i j (f i j) = f := by
  funext a b; unfold upd2; split
  · rename_i h; rw [h.1, h.2]
  · rfl
/-- is there such a balance? -/
def LM.has (l : LM) (m c : Int) : Bool := decide (0 ≤ m ∧ m < l.nm ∧ 0 ≤ c ∧ c < l.nc)
theorem LM.has_iff {l : LM} {m c : Int} : l.has m c = true ↔ 0 ≤ m ∧ m < l.nm ∧ 0 ≤ c ∧ c < l.nc := by unfold LM.has; simp
theorem LM.has_nat {l : LM} {m c : Int} (h : l.has m c = true) : ∃ i j : Nat, m = i ∧ c = j ∧ i < l.nm ∧ j < l.nc := by
  obtain ⟨h1, h2, h3, h4⟩ := LM.has_iff.1 h
  exact ⟨m.toNat, c.toNat, by omega, by omega, by omega, by omega⟩
def LM.get (l : LM) (m c : Int) : Int := if l.has m c then l.B m.toNat c.toNat else 0
def LM.nos (l : LM) (c : Int) : Int := if 0 ≤ c ∧ c < l.nc then l.N c.toNat else 0
/-- paid in -/
def LM.inn (l : LM) (m c a : Int) : Int × LM :=
  if l.has m c = true ∧ 1 ≤ a then
    if In64 (l.B m.toNat c.toNat + a) ∧ In64 (l.N c.toNat + a) then (0, ⟨l.nm, l.nc, upd2 l.B m.toNat c.toNat (l.B m.toNat c.toNat + a), upd l.N c.toNat (l.N c.toNat + a)⟩) else (3, l)
  else (1, l)
/-- paid out -/
def LM.out (l : LM) (m c a : Int) : Int × LM :=
  if l.has m c = true ∧ 1 ≤ a then
    if l.B m.toNat c.toNat < a ∨ l.N c.toNat < a then (10, l) else (0, ⟨l.nm, l.nc, upd2 l.B m.toNat c.toNat (l.B m.toNat c.toNat - a), upd l.N c.toNat (l.N c.toNat - a)⟩)
  else (1, l)
/-- one currency for another one -/
def LM.swap (l : LM) (m g v : Int) (got given : Int) : Int × LM :=
  if l.has m g = true ∧ l.has m v = true ∧ g ≠ v ∧ 1 ≤ got ∧ 1 ≤ given then
    if l.N v.toNat < given then (10, l)
    else if In64 (l.B m.toNat g.toNat + got) ∧ In64 (l.N g.toNat + got) ∧ In64 (l.B m.toNat v.toNat - given) then
      (0, ⟨l.nm, l.nc, upd2 (upd2 l.B m.toNat g.toNat (l.B m.toNat g.toNat + got)) m.toNat v.toNat (l.B m.toNat v.toNat - given), upd (upd l.N g.toNat (l.N g.toNat + got)) v.toNat (l.N v.toNat - given)⟩)
    else (3, l)
  else (1, l)
/-- a posting -/
structure Pst where
  m : Int
  c : Int
  a : Int
/-- all that is posted of a currency -/
def sumC (c : Int) : List Pst → Int
  | [] => 0
  | p :: ps => (if p.c = c then p.a else 0) + sumC c ps
/-- one posting after the other, or none where a balance would be no amount -/
def goP (B : Nat → Nat → Int) : List Pst → Option (Nat → Nat → Int)
  | [] => some B
  | p :: ps => if In64 (B p.m.toNat p.c.toNat + p.a) then goP (upd2 B p.m.toNat p.c.toNat (B p.m.toNat p.c.toNat + p.a)) ps else none
def LM.known (l : LM) (ps : List Pst) : Bool := ps.all fun p => l.has p.m p.c
def LM.even (l : LM) (ps : List Pst) : Bool := (List.range l.nc).all fun c => sumC (c : Nat) ps == 0
/-- a batch -/
def LM.post (l : LM) (ps : List Pst) : Int × LM :=
  if l.known ps = true then
    if l.even ps = true then (match goP l.B ps with | some B => (0, ⟨l.nm, l.nc, B, l.N⟩) | none => (3, l)) else (12, l)
  else (1, l)

def sumM (f : Nat → Int) : Nat → Int
  | 0 => 0
  | n + 1 => sumM f n + f n
theorem sumM_congr {f g : Nat → Int} : ∀ n, (∀ i, i < n → f i = g i) → sumM f n = sumM g n
  | 0, _ => rfl
  | n + 1, h => by rw [sumM, sumM, sumM_congr n (fun i hi => h i (by omega)), h n (by omega)]
theorem sumM_upd (f : Nat → Int) (k : Nat) (x : Int) : ∀ n, k < n → sumM (upd f k x) n = sumM f n + (x - f k)
  | 0, h => by omega
  | n + 1, h => by
    by_cases e : k = n
    · subst e
      rw [sumM, sumM, upd_same, (sumM_congr k (fun i hi => upd_other f x (by omega)) : sumM (upd f k x) k = sumM f k)]
      omega
    · rw [sumM, sumM, sumM_upd f k x n (by omega), upd_other f x (by omega)]
      omega
theorem sum_col (B : Nat → Nat → Int) {i j c n : Nat} (x : Int) (hi : i < n) : sumM (fun m => upd2 B i j x m c) n = sumM (fun m => B m c) n + (if c = j then x - B i j else 0) := by
  by_cases e : c = j
  · subst e
    rw [if_pos rfl]
    have h := sumM_upd (fun m => B m c) i x n hi
    rw [← h]
    refine sumM_congr n fun m hm => ?_
    unfold upd2 upd
    by_cases e2 : m = i
    · rw [if_pos ⟨e2, rfl⟩, if_pos e2]
    · rw [if_neg (fun h => e2 h.1), if_neg e2]
  · rw [if_neg e, Int.add_zero]
    exact sumM_congr n fun m hm => upd2_other B x (fun h => e h.2)

/-- a ledger as there are -/
structure LM.Ok (l : LM) : Prop where
  nm : 1 ≤ l.nm ∧ l.nm ≤ 16
  nc : 1 ≤ l.nc ∧ l.nc ≤ 8
  b : ∀ m c, In64 (l.B m c)
  n : ∀ c, In64 (l.N c)
  bz : ∀ m c, ¬ (m < l.nm ∧ c < l.nc) → l.B m c = 0
  nz : ∀ c, ¬ c < l.nc → l.N c = 0
/-- the balances are together the nostro, which isn't below 0 -/
structure LM.Sum (l : LM) : Prop where
  sum : ∀ c, c < l.nc → sumM (fun m => l.B m c) l.nm = l.N c
  pos : ∀ c, c < l.nc → 0 ≤ l.N c
def LM.new (nm nc : Nat) : LM := ⟨nm, nc, fun _ _ => 0, fun _ => 0⟩
theorem sumM_zero : ∀ n, sumM (fun _ => 0) n = 0
  | 0 => rfl
  | n + 1 => by rw [sumM, sumM_zero n]; rfl
theorem new_ok {nm nc : Nat} (h1 : 1 ≤ nm ∧ nm ≤ 16) (h2 : 1 ≤ nc ∧ nc ≤ 8) : (LM.new nm nc).Ok ∧ (LM.new nm nc).Sum :=
  ⟨⟨h1, h2, fun _ _ => by show In64 0; decide, fun _ => by show In64 0; decide, fun _ _ _ => rfl, fun _ _ => rfl⟩, ⟨fun c _ => sumM_zero nm, fun c _ => Int.le_refl 0⟩⟩
theorem upd2_ok {l : LM} (h : l.Ok) {i j : Nat} {x : Int} (hi : i < l.nm) (hj : j < l.nc) (hx : In64 x) {N : Nat → Int} (hN : ∀ c, In64 (N c)) (hz : ∀ c, ¬ c < l.nc → N c = 0) : (⟨l.nm, l.nc, upd2 l.B i j x, N⟩ : LM).Ok :=
  ⟨h.nm, h.nc, fun m c => by
    show In64 (upd2 l.B i j x m c)
    unfold upd2
    split
    · exact hx
    · exact h.b m c, hN, fun m c hm => by
    show upd2 l.B i j x m c = 0
    rw [upd2_other l.B x (fun e => hm ⟨by rw [e.1]; exact hi, by rw [e.2]; exact hj⟩)]
    exact h.bz m c hm, hz⟩
theorem upd_in {N : Nat → Int} {j : Nat} {x : Int} (h : ∀ c, In64 (N c)) (hx : In64 x) : ∀ c, In64 (upd N j x c) := fun c => by
  unfold upd
  split
  · exact hx
  · exact h c
theorem upd_z {N : Nat → Int} {j n : Nat} {x : Int} (h : ∀ c, ¬ c < n → N c = 0) (hj : j < n) : ∀ c, ¬ c < n → upd N j x c = 0 := fun c hc => by
  rw [upd_other N x (by omega)]
  exact h c hc
/-- what is kept by every call -/
structure LM.Good (l : LM) : Prop where
  ok : l.Ok
  sum : l.Sum
/-- of the same size -/
def LM.like (l k : LM) : Prop := k.nm = l.nm ∧ k.nc = l.nc
theorem inn_good {l : LM} (h : l.Good) (m c a : Int) : (l.inn m c a).2.Good ∧ l.like (l.inn m c a).2 ∧ ((l.inn m c a).1 ≠ 0 → (l.inn m c a).2 = l) := by
  unfold LM.inn
  split
  · rename_i h1
    split
    · rename_i h2
      obtain ⟨i, j, rfl, rfl, hi, hj⟩ := LM.has_nat h1.1
      simp only [Int.toNat_natCast] at h2 ⊢
      refine ⟨⟨upd2_ok h.ok hi hj h2.1 (upd_in h.ok.n h2.2) (upd_z h.ok.nz hj), ⟨fun c hc => ?_, fun c hc => ?_⟩⟩, ⟨rfl, rfl⟩, fun e => absurd rfl e⟩
      · show sumM (fun m => upd2 l.B i j _ m c) l.nm = upd l.N j _ c
        rw [sum_col l.B _ hi, h.sum.sum c hc]
        by_cases e : c = j
        · subst e; rw [if_pos rfl, upd_same]; omega
        · rw [if_neg e, upd_other _ _ e]; omega
      · show 0 ≤ upd l.N j _ c
        have := h.sum.pos c hc
        by_cases e : c = j
        · subst e; rw [upd_same]; omega
        · rw [upd_other _ _ e]; exact this
    · exact ⟨h, ⟨rfl, rfl⟩, fun _ => rfl⟩
  · exact ⟨h, ⟨rfl, rfl⟩, fun _ => rfl⟩
theorem out_good {l : LM} (h : l.Good) (m c a : Int) : (l.out m c a).2.Good ∧ l.like (l.out m c a).2 ∧ ((l.out m c a).1 ≠ 0 → (l.out m c a).2 = l) := by
  unfold LM.out
  split
  · rename_i h1
    split
    · exact ⟨h, ⟨rfl, rfl⟩, fun _ => rfl⟩
    · rename_i h2
      obtain ⟨i, j, rfl, rfl, hi, hj⟩ := LM.has_nat h1.1
      simp only [Int.toNat_natCast] at h2 ⊢
      have hb := h.ok.b i j
      have hn := h.ok.n j
      unfold In64 at hb hn
      refine ⟨⟨upd2_ok h.ok hi hj (by unfold In64; omega) (upd_in h.ok.n (by unfold In64; omega)) (upd_z h.ok.nz hj), ⟨fun c hc => ?_, fun c hc => ?_⟩⟩, ⟨rfl, rfl⟩, fun e => absurd rfl e⟩
      · show sumM (fun m => upd2 l.B i j _ m c) l.nm = upd l.N j _ c
        rw [sum_col l.B _ hi, h.sum.sum c hc]
        by_cases e : c = j
        · subst e; rw [if_pos rfl, upd_same]; omega
        · rw [if_neg e, upd_other _ _ e]; omega
      · show 0 ≤ upd l.N j _ c
        have := h.sum.pos c hc
        by_cases e : c = j
        · subst e; rw [upd_same]; omega
        · rw [upd_other _ _ e]; exact this
  · exact ⟨h, ⟨rfl, rfl⟩, fun _ => rfl⟩
theorem swap_good {l : LM} (h : l.Good) (m g v got given : Int) : (l.swap m g v got given).2.Good ∧ l.like (l.swap m g v got given).2 ∧ ((l.swap m g v got given).1 ≠ 0 → (l.swap m g v got given).2 = l) := by
  unfold LM.swap
  split
  · rename_i h1
    split
    · exact ⟨h, ⟨rfl, rfl⟩, fun _ => rfl⟩
    · rename_i h2
      split
      · rename_i h3
        obtain ⟨i, j, rfl, rfl, hi, hj⟩ := LM.has_nat h1.1
        obtain ⟨i', k, hii, rfl, hi', hk⟩ := LM.has_nat h1.2.1
        simp only [Int.toNat_natCast] at h2 h3 ⊢
        have hjk : j ≠ k := by have := h1.2.2.1; omega
        have hb := h.ok.b i k
        have hn := h.ok.n k
        have h1a := h1.2.2.2
        unfold In64 at hb hn
        refine ⟨⟨upd2_ok (l := ⟨l.nm, l.nc, upd2 l.B i j _, upd l.N j (l.N j + got)⟩) (upd2_ok h.ok hi hj h3.1 (upd_in h.ok.n h3.2.1) (upd_z h.ok.nz hj)) hi hk h3.2.2 (upd_in (upd_in h.ok.n h3.2.1) (by unfold In64; omega)) (upd_z (upd_z h.ok.nz hj) hk), ⟨fun c hc => ?_, fun c hc => ?_⟩⟩, ⟨rfl, rfl⟩, fun e => absurd rfl e⟩
        · show sumM (fun m => upd2 (upd2 l.B i j _) i k _ m c) l.nm = upd (upd l.N j _) k _ c
          rw [sum_col _ _ hi, sum_col l.B _ hi, h.sum.sum c hc, upd2_other l.B _ (fun e => hjk e.2.symm)]
          by_cases e : c = k
          · subst e; rw [if_pos rfl, upd_same, if_neg (Ne.symm hjk)]; omega
          · rw [if_neg e, upd_other _ _ e]
            by_cases e2 : c = j
            · subst e2; rw [if_pos rfl, upd_same]; omega
            · rw [if_neg e2, upd_other _ _ e2]; omega
        · show 0 ≤ upd (upd l.N j _) k _ c
          have := h.sum.pos c hc
          by_cases e : c = k
          · subst e; rw [upd_same]; omega
          · rw [upd_other _ _ e]
            by_cases e2 : c = j
            · subst e2; rw [upd_same]; omega
            · rw [upd_other _ _ e2]; exact this
      · exact ⟨h, ⟨rfl, rfl⟩, fun _ => rfl⟩
  · exact ⟨h, ⟨rfl, rfl⟩, fun _ => rfl⟩
end Go.Proofs.Ytghebijikdnikaa
