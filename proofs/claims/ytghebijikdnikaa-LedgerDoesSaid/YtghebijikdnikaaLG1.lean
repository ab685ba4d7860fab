/- Ledgers, plainly: batches keep sums; a batch and what takes it off; a ledger's bytes, there and back. No Go text. -/
import Derived.Test.YtghebijikdnikaaLG0
namespace Go.Proofs.Ytghebijikdnikaa
set_option linter.unusedVariables false

theorem go_cons {B C : Nat → Nat → Int} {p : Pst} {ps : List Pst} (h : goP B (p :: ps) = some C) : In64 (B p.m.toNat p.c.toNat + p.a) ∧ goP (upd2 B p.m.toNat p.c.toNat (B p.m.toNat p.c.toNat + p.a)) ps = some C := by
  unfold goP at h
  split at h
  · rename_i h1; exact ⟨h1, h⟩
  · cases h
theorem go_in : ∀ {ps : List Pst} {B C : Nat → Nat → Int}, goP B ps = some C → (∀ m c, In64 (B m c)) → ∀ m c, In64 (C m c)
  | [], B, C, h, hb => by injection h with h; rw [← h]; exact hb
  | p :: ps, B, C, h, hb => by
    obtain ⟨h1, h2⟩ := go_cons h
    refine go_in h2 fun m c => ?_
    unfold upd2
    split
    · exact h1
    · exact hb m c
theorem go_off : ∀ {ps : List Pst} {B C : Nat → Nat → Int} {nm nc : Nat}, goP B ps = some C → (∀ p ∈ ps, p.m.toNat < nm ∧ p.c.toNat < nc) → ∀ m c, ¬ (m < nm ∧ c < nc) → C m c = B m c
  | [], B, C, nm, nc, h, hk, m, c, hn => by injection h with h; rw [h]
  | p :: ps, B, C, nm, nc, h, hk, m, c, hn => by
    obtain ⟨h1, h2⟩ := go_cons h
    rw [go_off h2 (fun q hq => hk q (List.mem_cons_of_mem _ hq)) m c hn]
    have := hk p (List.mem_cons_self ..)
    exact upd2_other B _ (fun e => hn ⟨by rw [e.1]; exact this.1, by rw [e.2]; exact this.2⟩)
theorem go_sum : ∀ {ps : List Pst} {B C : Nat → Nat → Int} {nm : Nat}, goP B ps = some C → (∀ p ∈ ps, p.m.toNat < nm ∧ 0 ≤ p.c) → ∀ c : Nat, sumM (fun m => C m c) nm = sumM (fun m => B m c) nm + sumC (c : Nat) ps
  | [], B, C, nm, h, hk, c => by injection h with h; rw [h]; simp [sumC]
  | p :: ps, B, C, nm, h, hk, c => by
    obtain ⟨h1, h2⟩ := go_cons h
    have hp := hk p (List.mem_cons_self ..)
    rw [go_sum h2 (fun q hq => hk q (List.mem_cons_of_mem _ hq)) c, sum_col B _ hp.1, sumC]
    by_cases e : p.c = (c : Int)
    · rw [if_pos (by omega), if_pos e]; omega
    · rw [if_neg (by omega), if_neg e]; omega
theorem known_mem {l : LM} {ps : List Pst} (h : l.known ps = true) : ∀ p ∈ ps, l.has p.m p.c = true := List.all_eq_true.1 h
theorem known_bnd {l : LM} {ps : List Pst} (h : l.known ps = true) : ∀ p ∈ ps, p.m.toNat < l.nm ∧ p.c.toNat < l.nc ∧ 0 ≤ p.c := fun p hp => by
  have := LM.has_iff.1 (known_mem h p hp)
  omega
theorem even_iff {l : LM} {ps : List Pst} : l.even ps = true ↔ ∀ c : Nat, c < l.nc → sumC (c : Nat) ps = 0 := by
  unfold LM.even
  rw [List.all_eq_true]
  constructor
  · intro h c hc
    simpa using h c (List.mem_range.2 hc)
  · intro h c hc
    simpa using h c (List.mem_range.1 hc)
theorem post_good {l : LM} (h : l.Good) (ps : List Pst) : (l.post ps).2.Good ∧ l.like (l.post ps).2 ∧ ((l.post ps).1 ≠ 0 → (l.post ps).2 = l) := by
  unfold LM.post
  split
  · rename_i hk
    split
    · rename_i he
      cases hg : goP l.B ps with
      | none => exact ⟨h, ⟨rfl, rfl⟩, fun _ => rfl⟩
      | some C =>
        have hb := known_bnd hk
        refine ⟨⟨⟨h.ok.nm, h.ok.nc, go_in hg h.ok.b, h.ok.n, fun m c hn => ?_, h.ok.nz⟩, ⟨fun c hc => ?_, h.sum.pos⟩⟩, ⟨rfl, rfl⟩, fun e => absurd rfl e⟩
        · show C m c = 0
          rw [go_off hg (fun p hp => ⟨(hb p hp).1, (hb p hp).2.1⟩) m c hn]
          exact h.ok.bz m c hn
        · show sumM (fun m => C m c) l.nm = l.N c
          rw [go_sum hg (fun p hp => ⟨(hb p hp).1, (hb p hp).2.2⟩) c, h.sum.sum c hc, even_iff.1 he c hc]
          omega
    · exact ⟨h, ⟨rfl, rfl⟩, fun _ => rfl⟩
  · exact ⟨h, ⟨rfl, rfl⟩, fun _ => rfl⟩

/-- what takes a batch off -/
def offP (ps : List Pst) : List Pst := (ps.map fun p => ⟨p.m, p.c, -p.a⟩).reverse
theorem offP_cons (p : Pst) (ps : List Pst) : offP (p :: ps) = offP ps ++ [⟨p.m, p.c, -p.a⟩] := by unfold offP; rw [List.map_cons, List.reverse_cons]
theorem sumC_app (c : Int) : ∀ ps qs : List Pst, sumC c (ps ++ qs) = sumC c ps + sumC c qs
  | [], qs => by simp [sumC]
  | p :: ps, qs => by rw [List.cons_append, sumC, sumC, sumC_app c ps qs]; omega
theorem sumC_off (c : Int) : ∀ ps : List Pst, sumC c (offP ps) = - sumC c ps
  | [] => rfl
  | p :: ps => by
    rw [offP_cons, sumC_app, sumC_off c ps, sumC, sumC, sumC]
    show _ + ((if p.c = c then -p.a else 0) + 0) = _
    split <;> omega
theorem go_app : ∀ (ps qs : List Pst) (B : Nat → Nat → Int), goP B (ps ++ qs) = (goP B ps).bind fun C => goP C qs
  | [], qs, B => rfl
  | p :: ps, qs, B => by
    rw [List.cons_append, goP, goP]
    split
    · exact go_app ps qs _
    · rfl
theorem go_back : ∀ {ps : List Pst} {B C : Nat → Nat → Int}, goP B ps = some C → (∀ m c, In64 (B m c)) → goP C (offP ps) = some B
  | [], B, C, h, hb => by injection h with h; rw [h]; rfl
  | p :: ps, B, C, h, hb => by
    obtain ⟨h1, h2⟩ := go_cons h
    have hb2 : ∀ m c, In64 (upd2 B p.m.toNat p.c.toNat (B p.m.toNat p.c.toNat + p.a) m c) := fun m c => by
      unfold upd2
      split
      · exact h1
      · exact hb m c
    rw [offP_cons, go_app, go_back h2 hb2]
    show goP _ [_] = _
    unfold goP
    simp only [upd2_same]
    have e : B p.m.toNat p.c.toNat + p.a + -p.a = B p.m.toNat p.c.toNat := by omega
    rw [e, if_pos (hb _ _), upd2_twice, upd2_self]
    rfl
theorem known_off {l : LM} {ps : List Pst} (h : l.known ps = true) : l.known (offP ps) = true := by
  unfold LM.known offP at *
  rw [List.all_reverse, List.all_map]
  exact h
theorem known_like {l k : LM} (h : l.like k) (ps : List Pst) : k.known ps = l.known ps := by
  unfold LM.known LM.has
  rw [h.1, h.2]
/-- a batch, and then what takes it off -/
theorem post_back {l : LM} (h : l.Good) {ps : List Pst} (h0 : (l.post ps).1 = 0) : (l.post ps).2.post (offP ps) = (0, l) := by
  unfold LM.post at h0 ⊢
  split at h0
  · rename_i hk
    split at h0
    · rename_i he
      cases hg : goP l.B ps with
      | none => rw [hg] at h0; exact absurd h0 (by simp)
      | some C =>
        rw [if_pos hk, if_pos he]
        dsimp only
        have e1 : (⟨l.nm, l.nc, C, l.N⟩ : LM).known (offP ps) = true := by
          exact (known_off hk : l.known (offP ps) = true)
        have e2 : (⟨l.nm, l.nc, C, l.N⟩ : LM).even (offP ps) = true := even_iff.2 fun c hc => by
          rw [sumC_off, even_iff.1 he c hc]
          rfl
        rw [if_pos e1, if_pos e2, go_back hg h.ok.b]
    · exact absurd h0 (by simp)
  · exact absurd h0 (by simp)
/-- a pay-in, and a pay-out of as much -/
theorem inn_back {l : LM} (h : l.Good) {m c a : Int} (h0 : (l.inn m c a).1 = 0) (hg : 0 ≤ l.get m c) : (l.inn m c a).2.out m c a = (0, l) := by
  unfold LM.inn at h0 ⊢
  split at h0
  · rename_i h1
    split at h0
    · rename_i h2
      rw [if_pos h1, if_pos h2]
      obtain ⟨i, j, rfl, rfl, hi, hj⟩ := LM.has_nat h1.1
      unfold LM.get at hg
      rw [if_pos h1.1] at hg
      simp only [Int.toNat_natCast] at hg h2 ⊢
      have hp := h.sum.pos j hj
      unfold LM.out
      have h3 : (⟨l.nm, l.nc, upd2 l.B i j (l.B i j + a), upd l.N j (l.N j + a)⟩ : LM).has (i : Int) (j : Int) = true := LM.has_iff.2 ⟨by omega, by show (i : Int) < l.nm; omega, by omega, by show (j : Int) < l.nc; omega⟩
      rw [if_pos ⟨h3, h1.2⟩]
      simp only [Int.toNat_natCast, upd2_same, upd_same]
      rw [if_neg (by omega), upd2_twice, show l.B i j + a - a = l.B i j by omega, upd2_self, show l.N j + a - a = l.N j by omega]
      have e : upd (upd l.N j (l.N j + a)) j (l.N j) = l.N := by
        funext x; unfold upd
        split
        · rename_i e; rw [e]
        · rfl
      rw [e]
    · exact absurd h0 (by simp)
  · exact absurd h0 (by simp)

/-- amounts as bytes -/
def rowB (f : Nat → Int) : Nat → List UInt8
  | 0 => []
  | n + 1 => rowB f n ++ bes 8 (toU (f n))
theorem rowB_length (f : Nat → Int) : ∀ n, (rowB f n).length = 8 * n
  | 0 => rfl
  | n + 1 => by rw [rowB, List.length_append, rowB_length f n, bes_length]; omega
def rowsB (B : Nat → Nat → Int) (nc : Nat) : Nat → List UInt8
  | 0 => []
  | m + 1 => rowsB B nc m ++ rowB (B m) nc
theorem rowsB_length (B : Nat → Nat → Int) (nc : Nat) : ∀ m, (rowsB B nc m).length = 8 * nc * m
  | 0 => rfl
  | m + 1 => by rw [rowsB, List.length_append, rowsB_length B nc m, rowB_length, Nat.mul_succ]
/-- a ledger's bytes -/
def LM.text (l : LM) : List UInt8 := [UInt8.ofNat l.nm, UInt8.ofNat l.nc] ++ (rowB l.N l.nc ++ rowsB l.B l.nc l.nm)
theorem text_length (l : LM) : l.text.length = 2 + 8 * l.nc * (1 + l.nm) := by
  unfold LM.text
  rw [List.length_append, List.length_append, rowB_length, rowsB_length, Nat.mul_add]
  simp
def amt (s : List UInt8) (at_ : Nat) : Int := toI (vls ((s.drop at_).take 8))
/-- the ledger that bytes tell, whether or not its sums are right -/
def toldL (s : List UInt8) : LM :=
  let nm := (s.getD 0 0).toNat
  let nc := (s.getD 1 0).toNat
  ⟨nm, nc, fun m c => if m < nm ∧ c < nc then amt s (2 + 8 * (nc * (m + 1) + c)) else 0, fun c => if c < nc then amt s (2 + 8 * c) else 0⟩
def formL (s : List UInt8) : Bool := decide (2 ≤ s.length ∧ 1 ≤ (toldL s).nm ∧ (toldL s).nm ≤ 16 ∧ 1 ≤ (toldL s).nc ∧ (toldL s).nc ≤ 8 ∧ s.length = 2 + 8 * (toldL s).nc * (1 + (toldL s).nm))
def sumsL (l : LM) : Bool := (List.range l.nc).all fun c => sumM (fun m => l.B m c) l.nm == l.N c
/-- the ledger of bytes, or why there is none -/
def readL (s : List UInt8) : Int × Option LM := if formL s = true then (if sumsL (toldL s) = true then (0, some (toldL s)) else (8, none)) else (2, none)
theorem rowB_at (f : Nat → Int) : ∀ (n c : Nat) (r : List UInt8), c < n → (((rowB f n ++ r).drop (8 * c)).take 8) = bes 8 (toU (f c))
  | 0, c, r, h => by omega
  | n + 1, c, r, h => by
    rw [rowB, List.append_assoc]
    by_cases e : c = n
    · subst e
      rw [List.drop_left' (rowB_length f c), List.take_append_of_le_length (by rw [bes_length]; omega), List.take_of_length_le (by rw [bes_length]; omega)]
    · exact rowB_at f n c _ (by omega)
theorem rowsB_at (B : Nat → Nat → Int) (nc : Nat) : ∀ (n m c : Nat) (r : List UInt8), m < n → c < nc → (((rowsB B nc n ++ r).drop (8 * (nc * m + c))).take 8) = bes 8 (toU (B m c))
  | 0, m, c, r, h, hc => by omega
  | n + 1, m, c, r, h, hc => by
    rw [rowsB, List.append_assoc]
    by_cases e : m = n
    · subst e
      rw [show 8 * (nc * m + c) = 8 * nc * m + 8 * c by rw [Nat.mul_add, Nat.mul_assoc], ← List.drop_drop, List.drop_left' (rowsB_length B nc m)]
      exact rowB_at (B m) nc c r hc
    · exact rowsB_at B nc n m c _ (by omega) hc
theorem bes8_back (x : Int) (h : In64 x) : toI (vls (bes 8 (toU x))) = x := by
  rw [vls_bes, Nat.mod_eq_of_lt (by have := toU_lt x; omega)]
  exact toI_toU x h
theorem told_text {l : LM} (h : l.Ok) : toldL l.text = l := by
  have e0 : (l.text.getD 0 0).toNat = l.nm := by
    show (UInt8.ofNat l.nm).toNat = l.nm
    rw [UInt8.toNat_ofNat']; have := h.nm; omega
  have e1 : (l.text.getD 1 0).toNat = l.nc := by
    show (UInt8.ofNat l.nc).toNat = l.nc
    rw [UInt8.toNat_ofNat']; have := h.nc; omega
  have hd : ∀ k, l.text.drop (2 + k) = (rowB l.N l.nc ++ rowsB l.B l.nc l.nm).drop k := fun k => by
    rw [← List.drop_drop]
    rfl
  unfold toldL
  rw [e0, e1]
  have hB : (fun m c => if m < l.nm ∧ c < l.nc then amt l.text (2 + 8 * (l.nc * (m + 1) + c)) else 0) = l.B := by
    funext m c
    split
    · rename_i hm
      unfold amt
      rw [hd, show 8 * (l.nc * (m + 1) + c) = 8 * l.nc + 8 * (l.nc * m + c) by rw [Nat.mul_succ]; omega, ← List.drop_drop, List.drop_left' (rowB_length l.N l.nc)]
      have := rowsB_at l.B l.nc l.nm m c [] hm.1 hm.2
      rw [List.append_nil] at this
      rw [this, bes8_back _ (h.b m c)]
    · rename_i hm
      exact (h.bz m c hm).symm
  have hN : (fun c => if c < l.nc then amt l.text (2 + 8 * c) else 0) = l.N := by
    funext c
    split
    · rename_i hc
      unfold amt
      rw [hd, rowB_at l.N l.nc c _ hc, bes8_back _ (h.n c)]
    · rename_i hc
      exact (h.nz c hc).symm
  show (⟨l.nm, l.nc, _, _⟩ : LM) = l
  rw [hB, hN]
/-- a ledger is that of its bytes -/
theorem read_text {l : LM} (h : l.Good) : readL l.text = (0, some l) := by
  unfold readL formL
  rw [told_text h.ok, text_length]
  have h1 := h.ok.nm
  have h2 := h.ok.nc
  rw [if_pos (decide_eq_true ⟨by omega, h1.1, h1.2, h2.1, h2.2, rfl⟩), if_pos]
  unfold sumsL
  rw [List.all_eq_true]
  intro c hc
  simpa using h.sum.sum c (List.mem_range.1 hc)
theorem text_inj {l k : LM} (h : l.Ok) (h' : k.Ok) (e : l.text = k.text) : l = k := by rw [← told_text h, e, told_text h']
end Go.Proofs.Ytghebijikdnikaa
