/- Ledgers, plainly: balances, nostros, batches, their bytes; that sums are kept; there and back. No Go text.
  Ledgers, plainly: batches keep sums; a batch and what takes it off; a ledger's bytes, there and back. No Go text. -/
import Derived.Test.YtljclgphgojphaaW0
namespace Go.Proofs.Ytljclgphgojphaa
set_option linter.unusedVariables false

/-- a ledger: how many members and currencies, the balances, the nostros -/
structure LM where
  nm : Nat
  nc : Nat
  B : Nat → Nat → Int
  N : Nat → Int
def In64 (x : Int) : Prop := -9223372036854775808 ≤ x ∧ x ≤ 9223372036854775807
instance (x : Int) : Decidable (In64 x) := by unfold In64; exact inferInstance
/-- f, but x at i, j -/
def upd2 (f : Nat → Nat → Int) (i j : Nat) (x : Int) : Nat → Nat → Int := fun a b => if a = i ∧ b = j then x else f a b
theorem upd2_same (f : Nat → Nat → Int) (i j : Nat) (x : Int) : upd2 f i j x i j = x := if_pos ⟨rfl, rfl⟩
theorem upd2_other (f : Nat → Nat → Int) {i j a b : Nat} (x : Int) (h : ¬ (a = i ∧ b = j)) : upd2 f i j x a b = f a b := if_neg h
theorem upd2_twice (f : Nat → Nat → Int) (i j : Nat) (x y : Int) : upd2 (upd2 f i j x) i j y = upd2 f i j y := by
  funext a b; unfold upd2; split <;> simp_all
theorem upd2_self (f : Nat → Nat → Int) (i j : Nat) : upd2 f i j (f i j) = f := by
  funext a b; unfold upd2; split
  · rename_i h; rw [h.1, h.2]
  · rfl
/-- is there such a balance? -/
def LM.has (l : LM) (m c : Int) : Bool := decide (0 ≤ m ∧ m < l.nm ∧ 0 ≤ c ∧ c < l.nc)
theorem LM.has_iff {l : LM} {m c : Int} : l.has m c = true ↔ 0 ≤ m ∧ m < l.nm ∧ 0 ≤ c ∧ c < l.nc := by unfold LM.has; simp
theorem LM.has_nat {l : LM} {m c : Int} (h : l.has m c = true) : ∃ i j : Nat, m = i ∧ c = j ∧ i < l.nm ∧ j < l.nc := by
  obtain ⟨h1, h2, h3, h4⟩ := LM.has_iff.1 h
  exact ⟨m.toNat, c.toNat, by omega, by omega, by omega, by omega⟩
def LM.get (l : LM) (m c : Int) : Int := if l.has m c then l.B m.toNat c.toNat else 0
def LM.nos (l : LM) (c : Int) : Int := if 0 ≤ c ∧ c < l.nc then l.N c.toNat else 0
/-- paid in -/
def LM.inn (l : LM) (m c a : Int) : Int × LM :=
  if l.has m c = true ∧ 1 ≤ a then
    if In64 (l.B m.toNat c.toNat + a) ∧ In64 (l.N c.toNat + a) then (0, ⟨l.nm, l.nc, upd2 l.B m.toNat c.toNat (l.B m.toNat c.toNat + a), upd l.N c.toNat (l.N c.toNat + a)⟩) else (3, l)
  else (1, l)
/-- paid out -/
def LM.out (l : LM) (m c a : Int) : Int × LM :=
  if l.has m c = true ∧ 1 ≤ a then
    if l.B m.toNat c.toNat < a ∨ l.N c.toNat < a then (10, l) else (0, ⟨l.nm, l.nc, upd2 l.B m.toNat c.toNat (l.B m.toNat c.toNat - a), upd l.N c.toNat (l.N c.toNat - a)⟩)
  else (1, l)
/-- one currency for another one -/
def LM.swap (l : LM) (m g v : Int) (got given : Int) : Int × LM :=
  if l.has m g = true ∧ l.has m v = true ∧ g ≠ v ∧ 1 ≤ got ∧ 1 ≤ given then
    if l.N v.toNat < given then (10, l)
    else if In64 (l.B m.toNat g.toNat + got) ∧ In64 (l.N g.toNat + got) ∧ In64 (l.B m.toNat v.toNat - given) then
      (0, ⟨l.nm, l.nc, upd2 (upd2 l.B m.toNat g.toNat (l.B m.toNat g.toNat + got)) m.toNat v.toNat (l.B m.toNat v.toNat - given), upd (upd l.N g.toNat (l.N g.toNat + got)) v.toNat (l.N v.toNat - given)⟩)
    else (3, l)
  else (1, l)
/-- a posting -/
structure Pst where
  m : Int
  c : Int
  a : Int
/-- all that is posted of a currency -/
def sumC (c : Int) : List Pst → Int
  | [] => 0
  | p :: ps => (if p.c = c then p.a else 0) + sumC c ps
/-- one posting after the other, or none where a balance would be no amount -/
def goP (B : Nat → Nat → Int) : List Pst → Option (Nat → Nat → Int)
  | [] => some B
  | p :: ps => if In64 (B p.m.toNat p.c.toNat + p.a) then goP (upd2 B p.m.toNat p.c.toNat (B p.m.toNat p.c.toNat + p.a)) ps else none
def LM.known (l : LM) (ps : List Pst) : Bool := ps.all fun p => l.has p.m p.c
def LM.even (l : LM) (ps : List Pst) : Bool := (List.range l.nc).all fun c => sumC (c : Nat) ps == 0
/-- a batch -/
def LM.post (l : LM) (ps : List Pst) : Int × LM :=
  if l.known ps = true then
    if l.even ps = true then (match goP l.B ps with | some B => (0, ⟨l.nm, l.nc, B, l.N⟩) | none => (3, l)) else (12, l)
  else (1, l)

def sumM (f : Nat → Int) : Nat → Int
  | 0 => 0
  | n + 1 => sumM f n + f n
theorem sumM_congr {f g : Nat → Int} : ∀ n, (∀ i, i < n → f i = g i) → sumM f n = sumM g n
  | 0, _ => rfl
  | n + 1, h => by rw [sumM, sumM, sumM_congr n (fun i hi => h i (by omega)), h n (by omega)]
theorem sumM_upd (f : Nat → Int) (k : Nat) (x : Int) : ∀ n, k < n → sumM (upd f k x) n = sumM f n + (x - f k)
  | 0, h => by omega
  | n + 1, h => by
    by_cases e : k = n
    · subst e
      rw [sumM, sumM, upd_same, (sumM_congr k (fun i hi => upd_other f x (by omega)) : sumM (upd f k x) k = sumM f k)]
      omega
    · rw [sumM, sumM, sumM_upd f k x n (by omega), upd_other f x (by omega)]
      omega
theorem sum_col (B : Nat → Nat → Int) {i j c n : Nat} (x : Int) (hi : i < n) : sumM (fun m => upd2 B i j x m c) n = sumM (fun m => B m c) n + (if c = j then x - B i j else 0) := by
  by_cases e : c = j
  · subst e
    rw [if_pos rfl]
    have h := sumM_upd (fun m => B m c) i x n hi
    rw [← h]
    refine sumM_congr n fun m hm => ?_
    unfold upd2 upd
    by_cases e2 : m = i
    · rw [if_pos ⟨e2, rfl⟩, if_pos e2]
    · rw [if_neg (fun h => e2 h.1), if_neg e2]
  · rw [if_neg e, Int.add_zero]
    exact sumM_congr n fun m hm => upd2_other B x (fun h => e h.2)

/-- a ledger as there are -/
structure LM.Ok (l : LM) : Prop where
  nm : 1 ≤ l.nm ∧ l.nm ≤ 16
  nc : 1 ≤ l.nc ∧ l.nc ≤ 8
  b : ∀ m c, In64 (l.B m c)
  n : ∀ c, In64 (l.N c)
  bz : ∀ m c, ¬ (m < l.nm ∧ c < l.nc) → l.B m c = 0
  nz : ∀ c, ¬ c < l.nc → l.N c = 0
/-- the balances are together the nostro, which isn't below 0 -/
structure LM.Sum (l : LM) : Prop where
  sum : ∀ c, c < l.nc → sumM (fun m => l.B m c) l.nm = l.N c
  pos : ∀ c, c < l.nc → 0 ≤ l.N c
def LM.new (nm nc : Nat) : LM := ⟨nm, nc, fun _ _ => 0, fun _ => 0⟩
theorem sumM_zero : ∀ n, sumM (fun _ => 0) n = 0
  | 0 => rfl
  | n + 1 => by rw [sumM, sumM_zero n]; rfl
theorem new_ok {nm nc : Nat} (h1 : 1 ≤ nm ∧ nm ≤ 16) (h2 : 1 ≤ nc ∧ nc ≤ 8) : (LM.new nm nc).Ok ∧ (LM.new nm nc).Sum :=
  ⟨⟨h1, h2, fun _ _ => by show In64 0; decide, fun _ => by show In64 0; decide, fun _ _ _ => rfl, fun _ _ => rfl⟩, ⟨fun c _ => sumM_zero nm, fun c _ => Int.le_refl 0⟩⟩
theorem upd2_ok {l : LM} (h : l.Ok) {i j : Nat} {x : Int} (hi : i < l.nm) (hj : j < l.nc) (hx : In64 x) {N : Nat → Int} (hN : ∀ c, In64 (N c)) (hz : ∀ c, ¬ c < l.nc → N c = 0) : (⟨l.nm, l.nc, upd2 l.B i j x, N⟩ : LM).Ok :=
  ⟨h.nm, h.nc, fun m c => by
    show In64 (upd2 l.B i j x m c)
    unfold upd2
    split
    · exact hx
    · exact h.b m c, hN, fun m c hm => by
    show upd2 l.B i j x m c = 0
    rw [upd2_other l.B x (fun e => hm ⟨by rw [e.1]; exact hi, by rw [e.2]; exact hj⟩)]
    exact h.bz m c hm, hz⟩
theorem upd_in {N : Nat → Int} {j : Nat} {x : Int} (h : ∀ c, In64 (N c)) (hx : In64 x) : ∀ c, In64 (upd N j x c) := fun c => by
  unfold upd
  split
  · exact hx
  · exact h c
theorem upd_z {N : Nat → Int} {j n : Nat} {x : Int} (h : ∀ c, ¬ c < n → N c = 0) (hj : j < n) : ∀ c, ¬ c < n → upd N j x c = 0 := fun c hc => by
  rw [upd_other N x (by omega)]
  exact h c hc
/-- what is kept by every call -/
structure LM.Good (l : LM) : Prop where
  ok : l.Ok
  sum : l.Sum
/-- of the same size -/
def LM.like (l k : LM) : Prop := k.nm = l.nm ∧ k.nc = l.nc
theorem inn_good {l : LM} (h : l.Good) (m c a : Int) : (l.inn m c a).2.Good ∧ l.like (l.inn m c a).2 ∧ ((l.inn m c a).1 ≠ 0 → (l.inn m c a).2 = l) := by
  unfold LM.inn
  split
  · rename_i h1
    split
    · rename_i h2
      obtain ⟨i, j, rfl, rfl, hi, hj⟩ := LM.has_nat h1.1
      simp only [Int.toNat_natCast] at h2 ⊢
      refine ⟨⟨upd2_ok h.ok hi hj h2.1 (upd_in h.ok.n h2.2) (upd_z h.ok.nz hj), ⟨fun c hc => ?_, fun c hc => ?_⟩⟩, ⟨rfl, rfl⟩, fun e => absurd rfl e⟩
      · show sumM (fun m => upd2 l.B i j _ m c) l.nm = upd l.N j _ c
        rw [sum_col l.B _ hi, h.sum.sum c hc]
        by_cases e : c = j
        · subst e; rw [if_pos rfl, upd_same]; omega
        · rw [if_neg e, upd_other _ _ e]; omega
      · show 0 ≤ upd l.N j _ c
        have := h.sum.pos c hc
        by_cases e : c = j
        · subst e; rw [upd_same]; omega
        · rw [upd_other _ _ e]; exact this
    · exact ⟨h, ⟨rfl, rfl⟩, fun _ => rfl⟩
  · exact ⟨h, ⟨rfl, rfl⟩, fun _ => rfl⟩
theorem out_good {l : LM} (h : l.Good) (m c a : Int) : (l.out m c a).2.Good ∧ l.like (l.out m c a).2 ∧ ((l.out m c a).1 ≠ 0 → (l.out m c a).2 = l) := by
  unfold LM.out
  split
  · rename_i h1
    split
    · exact ⟨h, ⟨rfl, rfl⟩, fun _ => rfl⟩
    · rename_i h2
      obtain ⟨i, j, rfl, rfl, hi, hj⟩ := LM.has_nat h1.1
      simp only [Int.toNat_natCast] at h2 ⊢
      have hb := h.ok.b i j
      have hn := h.ok.n j
      unfold In64 at hb hn
      refine ⟨⟨upd2_ok h.ok hi hj (by unfold In64; omega) (upd_in h.ok.n (by unfold In64; omega)) (upd_z h.ok.nz hj), ⟨fun c hc => ?_, fun c hc => ?_⟩⟩, ⟨rfl, rfl⟩, fun e => absurd rfl e⟩
      · show sumM (fun m => upd2 l.B i j _ m c) l.nm = upd l.N j _ c
        rw [sum_col l.B _ hi, h.sum.sum c hc]
        by_cases e : c = j
        · subst e; rw [if_pos rfl, upd_same]; omega
        · rw [if_neg e, upd_other _ _ e]; omega
      · show 0 ≤ upd l.N j _ c
        have := h.sum.pos c hc
        by_cases e : c = j
        · subst e; rw [upd_same]; omega
        · rw [upd_other _ _ e]; exact this
  · exact ⟨h, ⟨rfl, rfl⟩, fun _ => rfl⟩
theorem swap_good {l : LM} (h : l.Good) (m g v got given : Int) : (l.swap m g v got given).2.Good ∧ l.like (l.swap m g v got given).2 ∧ ((l.swap m g v got given).1 ≠ 0 → (l.swap m g v got given).2 = l) := by
  unfold LM.swap
  split
  · rename_i h1
    split
    · exact ⟨h, ⟨rfl, rfl⟩, fun _ => rfl⟩
    · rename_i h2
      split
      · rename_i h3
        obtain ⟨i, j, rfl, rfl, hi, hj⟩ := LM.has_nat h1.1
        obtain ⟨i', k, hii, rfl, hi', hk⟩ := LM.has_nat h1.2.1
        simp only [Int.toNat_natCast] at h2 h3 ⊢
        have hjk : j ≠ k := by have := h1.2.2.1; omega
        have hb := h.ok.b i k
        have hn := h.ok.n k
        have h1a := h1.2.2.2
        unfold In64 at hb hn
        refine ⟨⟨upd2_ok (l := ⟨l.nm, l.nc, upd2 l.B i j _, upd l.N j (l.N j + got)⟩) (upd2_ok h.ok hi hj h3.1 (upd_in h.ok.n h3.2.1) (upd_z h.ok.nz hj)) hi hk h3.2.2 (upd_in (upd_in h.ok.n h3.2.1) (by unfold In64; omega)) (upd_z (upd_z h.ok.nz hj) hk), ⟨fun c hc => ?_, fun c hc => ?_⟩⟩, ⟨rfl, rfl⟩, fun e => absurd rfl e⟩
        · show sumM (fun m => upd2 (upd2 l.B i j _) i k _ m c) l.nm = upd (upd l.N j _) k _ c
          rw [sum_col _ _ hi, sum_col l.B _ hi, h.sum.sum c hc, upd2_other l.B _ (fun e => hjk e.2.symm)]
          by_cases e : c = k
          · subst e; rw [if_pos rfl, upd_same, if_neg (Ne.symm hjk)]; omega
          · rw [if_neg e, upd_other _ _ e]
            by_cases e2 : c = j
            · subst e2; rw [if_pos rfl, upd_same]; omega
            · rw [if_neg e2, upd_other _ _ e2]; omega
        · show 0 ≤ upd (upd l.N j _) k _ c
          have := h.sum.pos c hc
          by_cases e : c = k
          · subst e; rw [upd_same]; omega
          · rw [upd_other _ _ e]
            by_cases e2 : c = j
            · subst e2; rw [upd_same]; omega
            · rw [upd_other _ _ e2]; exact this
      · exact ⟨h, ⟨rfl, rfl⟩, fun _ => rfl⟩
  · exact ⟨h, ⟨rfl, rfl⟩, fun _ => rfl⟩
end Go.Proofs.Ytljclgphgojphaa
namespace Go.Proofs.Ytljclgphgojphaa
set_option linter.unusedVariables false

theorem go_cons {B C : Nat → Nat → Int} {p : Pst} {ps : List Pst} (h : goP B (p :: ps) = some C) : In64 (B p.m.toNat p.c.toNat + p.a) ∧ goP (upd2 B p.m.toNat p.c.toNat (B p.m.toNat p.c.toNat + p.a)) ps = some C := by
  unfold goP at h
  split at h
  · rename_i h1; exact ⟨h1, h⟩
  · cases h
theorem go_in : ∀ {ps : List Pst} {B C : Nat → Nat → Int}, goP B ps = some C → (∀ m c, In64 (B m c)) → ∀ m c, In64 (C m c)
  | [], B, C, h, hb => by injection h with h; rw [← h]; exact hb
  | p :: ps, B, C, h, hb => by
    obtain ⟨h1, h2⟩ := go_cons h
    refine go_in h2 fun m c => ?_
    unfold upd2
    split
    · exact h1
    · exact hb m c
theorem go_off : ∀ {ps : List Pst} {B C : Nat → Nat → Int} {nm nc : Nat}, goP B ps = some C → (∀ p ∈ ps, p.m.toNat < nm ∧ p.c.toNat < nc) → ∀ m c, ¬ (m < nm ∧ c < nc) → C m c = B m c
  | [], B, C, nm, nc, h, hk, m, c, hn => by injection h with h; rw [h]
  | p :: ps, B, C, nm, nc, h, hk, m, c, hn => by
    obtain ⟨h1, h2⟩ := go_cons h
    rw [go_off h2 (fun q hq => hk q (List.mem_cons_of_mem _ hq)) m c hn]
    have := hk p (List.mem_cons_self ..)
    exact upd2_other B _ (fun e => hn ⟨by rw [e.1]; exact this.1, by rw [e.2]; exact this.2⟩)
theorem go_sum : ∀ {ps : List Pst} {B C : Nat → Nat → Int} {nm : Nat}, goP B ps = some C → (∀ p ∈ ps, p.m.toNat < nm ∧ 0 ≤ p.c) → ∀ c : Nat, sumM (fun m => C m c) nm = sumM (fun m => B m c) nm + sumC (c : Nat) ps
  | [], B, C, nm, h, hk, c => by injection h with h; rw [h]; simp [sumC]
  | p :: ps, B, C, nm, h, hk, c => by
    obtain ⟨h1, h2⟩ := go_cons h
    have hp := hk p (List.mem_cons_self ..)
    rw [go_sum h2 (fun q hq => hk q (List.mem_cons_of_mem _ hq)) c, sum_col B _ hp.1, sumC]
    by_cases e : p.c = (c : Int)
    · rw [if_pos (by omega), if_pos e]; omega
    · rw [if_neg (by omega), if_neg e]; omega
theorem known_mem {l : LM} {ps : List Pst} (h : l.known ps = true) : ∀ p ∈ ps, l.has p.m p.c = true := List.all_eq_true.1 h
theorem known_bnd {l : LM} {ps : List Pst} (h : l.known ps = true) : ∀ p ∈ ps, p.m.toNat < l.nm ∧ p.c.toNat < l.nc ∧ 0 ≤ p.c := fun p hp => by
  have := LM.has_iff.1 (known_mem h p hp)
  omega
theorem even_iff {l : LM} {ps : List Pst} : l.even ps = true ↔ ∀ c : Nat, c < l.nc → sumC (c : Nat) ps = 0 := by
  unfold LM.even
  rw [List.all_eq_true]
  constructor
  · intro h c hc
    simpa using h c (List.mem_range.2 hc)
  · intro h c hc
    simpa using h c (List.mem_range.1 hc)
theorem post_good {l : LM} (h : l.Good) (ps : List Pst) : (l.post ps).2.Good ∧ l.like (l.post ps).2 ∧ ((l.post ps).1 ≠ 0 → (l.post ps).2 = l) := by
  unfold LM.post
  split
  · rename_i hk
    split
    · rename_i he
      cases hg : goP l.B ps with
      | none => exact ⟨h, ⟨rfl, rfl⟩, fun _ => rfl⟩
      | some C =>
        have hb := known_bnd hk
        refine ⟨⟨⟨h.ok.nm, h.ok.nc, go_in hg h.ok.b, h.ok.n, fun m c hn => ?_, h.ok.nz⟩, ⟨fun c hc => ?_, h.sum.pos⟩⟩, ⟨rfl, rfl⟩, fun e => absurd rfl e⟩
        · show C m c = 0
          rw [go_off hg (fun p hp => ⟨(hb p hp).1, (hb p hp).2.1⟩) m c hn]
          exact h.ok.bz m c hn
        · show sumM (fun m => C m c) l.nm = l.N c
          rw [go_sum hg (fun p hp => ⟨(hb p hp).1, (hb p hp).2.2⟩) c, h.sum.sum c hc, even_iff.1 he c hc]
          omega
    · exact ⟨h, ⟨rfl, rfl⟩, fun _ => rfl⟩
  · exact ⟨h, ⟨rfl, rfl⟩, fun _ => rfl⟩

/-- what takes a batch off -/
def offP (ps : List Pst) : List Pst := (ps.map fun p => ⟨p.m, p.c, -p.a⟩).reverse
theorem offP_cons (p : Pst) (ps : List Pst) : offP (p :: ps) = offP ps ++ [⟨p.m, p.c, -p.a⟩] := by unfold offP; rw [List.map_cons, List.reverse_cons]
theorem sumC_app (c : Int) : ∀ ps qs : List Pst, sumC c (ps ++ qs) = sumC c ps + sumC c qs
  | [], qs => by simp [sumC]
  | p :: ps, qs => by rw [List.cons_append, sumC, sumC, sumC_app c ps qs]; omega
theorem sumC_off (c : Int) : ∀ ps : List Pst, sumC c (offP ps) = - sumC c ps
  | [] => rfl
  | p :: ps => by
    rw [offP_cons, sumC_app, sumC_off c ps, sumC, sumC, sumC]
    show _ + ((if p.c = c then -p.a else 0) + 0) = _
    split <;> omega
theorem go_app : ∀ (ps qs : List Pst) (B : Nat → Nat → Int), goP B (ps ++ qs) = (goP B ps).bind fun C => goP C qs
  | [], qs, B => rfl
  | p :: ps, qs, B => by
    rw [List.cons_append, goP, goP]
    split
    · exact go_app ps qs _
    · rfl
theorem go_back : ∀ {ps : List Pst} {B C : Nat → Nat → Int}, goP B ps = some C → (∀ m c, In64 (B m c)) → goP C (offP ps) = some B
  | [], B, C, h, hb => by injection h with h; rw [h]; rfl
  | p :: ps, B, C, h, hb => by
    obtain ⟨h1, h2⟩ := go_cons h
    have hb2 : ∀ m c, In64 (upd2 B p.m.toNat p.c.toNat (B p.m.toNat p.c.toNat + p.a) m c) := fun m c => by
      unfold upd2
      split
      · exact h1
      · exact hb m c
    rw [offP_cons, go_app, go_back h2 hb2]
    show goP _ [_] = _
    unfold goP
    simp only [upd2_same]
    have e : B p.m.toNat p.c.toNat + p.a + -p.a = B p.m.toNat p.c.toNat := by omega
    rw [e, if_pos (hb _ _), upd2_twice, upd2_self]
    rfl
theorem known_off {l : LM} {ps : List Pst} (h : l.known ps = true) : l.known (offP ps) = true := by
  unfold LM.known offP at *
  rw [List.all_reverse, List.all_map]
  exact h
theorem known_like {l k : LM} (h : l.like k) (ps : List Pst) : k.known ps = l.known ps := by
  unfold LM.known LM.has
  rw [h.1, h.2]
/-- a batch, and then what takes it off -/
theorem post_back {l : LM} (h : l.Good) {ps : List Pst} (h0 : (l.post ps).1 = 0) : (l.post ps).2.post (offP ps) = (0, l) := by
  unfold LM.post at h0 ⊢
  split at h0
  · rename_i hk
    split at h0
    · rename_i he
      cases hg : goP l.B ps with
      | none => rw [hg] at h0; exact absurd h0 (by simp)
      | some C =>
        rw [if_pos hk, if_pos he]
        dsimp only
        have e1 : (⟨l.nm, l.nc, C, l.N⟩ : LM).known (offP ps) = true := by
          exact (known_off hk : l.known (offP ps) = true)
        have e2 : (⟨l.nm, l.nc, C, l.N⟩ : LM).even (offP ps) = true := even_iff.2 fun c hc => by
          rw [sumC_off, even_iff.1 he c hc]
          rfl
        rw [if_pos e1, if_pos e2, go_back hg h.ok.b]
    · exact absurd h0 (by simp)
  · exact absurd h0 (by simp)
/-- a pay-in, and a pay-out of as much -/
theorem inn_back {l : LM} (h : l.Good) {m c a : Int} (h0 : (l.inn m c a).1 = 0) (hg : 0 ≤ l.get m c) : (l.inn m c a).2.out m c a = (0, l) := by
  unfold LM.inn at h0 ⊢
  split at h0
  · rename_i h1
    split at h0
    · rename_i h2
      rw [if_pos h1, if_pos h2]
      obtain ⟨i, j, rfl, rfl, hi, hj⟩ := LM.has_nat h1.1
      unfold LM.get at hg
      rw [if_pos h1.1] at hg
      simp only [Int.toNat_natCast] at hg h2 ⊢
      have hp := h.sum.pos j hj
      unfold LM.out
      have h3 : (⟨l.nm, l.nc, upd2 l.B i j (l.B i j + a), upd l.N j (l.N j + a)⟩ : LM).has (i : Int) (j : Int) = true := LM.has_iff.2 ⟨by omega, by show (i : Int) < l.nm; omega, by omega, by show (j : Int) < l.nc; omega⟩
      rw [if_pos ⟨h3, h1.2⟩]
      simp only [Int.toNat_natCast, upd2_same, upd_same]
      rw [if_neg (by omega), upd2_twice, show l.B i j + a - a = l.B i j by omega, upd2_self, show l.N j + a - a = l.N j by omega]
      have e : upd (upd l.N j (l.N j + a)) j (l.N j) = l.N := by
        funext x; unfold upd
        split
        · rename_i e; rw [e]
        · rfl
      rw [e]
    · exact absurd h0 (by simp)
  · exact absurd h0 (by simp)

/-- amounts as bytes -/
def rowB (f : Nat → Int) : Nat → List UInt8
  | 0 => []
  | n + 1 => rowB f n ++ bes 8 (toU (f n))
theorem rowB_length (f : Nat → Int) : ∀ n, (rowB f n).length = 8 * n
  | 0 => rfl
  | n + 1 => by rw [rowB, List.length_append, rowB_length f n, bes_length]; omega
def rowsB (B : Nat → Nat → Int) (nc : Nat) : Nat → List UInt8
  | 0 => []
  | m + 1 => rowsB B nc m ++ rowB (B m) nc
theorem rowsB_length (B : Nat → Nat → Int) (nc : Nat) : ∀ m, (rowsB B nc m).length = 8 * nc * m
  | 0 => rfl
  | m + 1 => by rw [rowsB, List.length_append, rowsB_length B nc m, rowB_length, Nat.mul_succ]
/-- a ledger's bytes -/
def LM.text (l : LM) : List UInt8 := [UInt8.ofNat l.nm, UInt8.ofNat l.nc] ++ (rowB l.N l.nc ++ rowsB l.B l.nc l.nm)
theorem text_length (l : LM) : l.text.length = 2 + 8 * l.nc * (1 + l.nm) := by
  unfold LM.text
  rw [List.length_append, List.length_append, rowB_length, rowsB_length, Nat.mul_add]
  simp
def amt (s : List UInt8) (at_ : Nat) : Int := toI (vls ((s.drop at_).take 8))
/-- the ledger that bytes tell, whether or not its sums are right -/
def toldL (s : List UInt8) : LM :=
  let nm := (s.getD 0 0).toNat
  let nc := (s.getD 1 0).toNat
  ⟨nm, nc, fun m c => if m < nm ∧ c < nc then amt s (2 + 8 * (nc * (m + 1) + c)) else 0, fun c => if c < nc then amt s (2 + 8 * c) else 0⟩
def formL (s : List UInt8) : Bool := decide (2 ≤ s.length ∧ 1 ≤ (toldL s).nm ∧ (toldL s).nm ≤ 16 ∧ 1 ≤ (toldL s).nc ∧ (toldL s).nc ≤ 8 ∧ s.length = 2 + 8 * (toldL s).nc * (1 + (toldL s).nm))
def sumsL (l : LM) : Bool := (List.range l.nc).all fun c => sumM (fun m => l.B m c) l.nm == l.N c
/-- the ledger of bytes, or why there is none -/
def readL (s : List UInt8) : Int × Option LM := if formL s = true then (if sumsL (toldL s) = true then (0, some (toldL s)) else (8, none)) else (2, none)
theorem rowB_at (f : Nat → Int) : ∀ (n c : Nat) (r : List UInt8), c < n → (((rowB f n ++ r).drop (8 * c)).take 8) = bes 8 (toU (f c))
  | 0, c, r, h => by omega
  | n + 1, c, r, h => by
    rw [rowB, List.append_assoc]
    by_cases e : c = n
    · subst e
      rw [List.drop_left' (rowB_length f c), List.take_append_of_le_length (by rw [bes_length]; omega), List.take_of_length_le (by rw [bes_length]; omega)]
    · exact rowB_at f n c _ (by omega)
theorem rowsB_at (B : Nat → Nat → Int) (nc : Nat) : ∀ (n m c : Nat) (r : List UInt8), m < n → c < nc → (((rowsB B nc n ++ r).drop (8 * (nc * m + c))).take 8) = bes 8 (toU (B m c))
  | 0, m, c, r, h, hc => by omega
  | n + 1, m, c, r, h, hc => by
    rw [rowsB, List.append_assoc]
    by_cases e : m = n
    · subst e
      rw [show 8 * (nc * m + c) = 8 * nc * m + 8 * c by rw [Nat.mul_add, Nat.mul_assoc], ← List.drop_drop, List.drop_left' (rowsB_length B nc m)]
      exact rowB_at (B m) nc c r hc
    · exact rowsB_at B nc n m c _ (by omega) hc
theorem bes8_back (x : Int) (h : In64 x) : toI (vls (bes 8 (toU x))) = x := by
  rw [vls_bes, Nat.mod_eq_of_lt (by have := toU_lt x; omega)]
  exact toI_toU x h
theorem told_text {l : LM} (h : l.Ok) : toldL l.text = l := by
  have e0 : (l.text.getD 0 0).toNat = l.nm := by
    show (UInt8.ofNat l.nm).toNat = l.nm
    rw [UInt8.toNat_ofNat']; have := h.nm; omega
  have e1 : (l.text.getD 1 0).toNat = l.nc := by
    show (UInt8.ofNat l.nc).toNat = l.nc
    rw [UInt8.toNat_ofNat']; have := h.nc; omega
  have hd : ∀ k, l.text.drop (2 + k) = (rowB l.N l.nc ++ rowsB l.B l.nc l.nm).drop k := fun k => by
    rw [← List.drop_drop]
    rfl
  unfold toldL
  rw [e0, e1]
  have hB : (fun m c => if m < l.nm ∧ c < l.nc then amt l.text (2 + 8 * (l.nc * (m + 1) + c)) else 0) = l.B := by
    funext m c
    split
    · rename_i hm
      unfold amt
      rw [hd, show 8 * (l.nc * (m + 1) + c) = 8 * l.nc + 8 * (l.nc * m + c) by rw [Nat.mul_succ]; omega, ← List.drop_drop, List.drop_left' (rowB_length l.N l.nc)]
      have := rowsB_at l.B l.nc l.nm m c [] hm.1 hm.2
      rw [List.append_nil] at this
      rw [this, bes8_back _ (h.b m c)]
    · rename_i hm
      exact (h.bz m c hm).symm
  have hN : (fun c => if c < l.nc then amt l.text (2 + 8 * c) else 0) = l.N := by
    funext c
    split
    · rename_i hc
      unfold amt
      rw [hd, rowB_at l.N l.nc c _ hc, bes8_back _ (h.n c)]
    · rename_i hc
      exact (h.nz c hc).symm
  show (⟨l.nm, l.nc, _, _⟩ : LM) = l
  rw [hB, hN]
/-- a ledger is that of its bytes -/
theorem read_text {l : LM} (h : l.Good) : readL l.text = (0, some l) := by
  unfold readL formL
  rw [told_text h.ok, text_length]
  have h1 := h.ok.nm
  have h2 := h.ok.nc
  rw [if_pos (decide_eq_true ⟨by omega, h1.1, h1.2, h2.1, h2.2, rfl⟩), if_pos]
  unfold sumsL
  rw [List.all_eq_true]
  intro c hc
  simpa using h.sum.sum c (List.mem_range.1 hc)
theorem text_inj {l k : LM} (h : l.Ok) (h' : k.Ok) (e : l.text = k.text) : l = k := by rw [← told_text h, e, told_text h']
end Go.Proofs.Ytljclgphgojphaa
