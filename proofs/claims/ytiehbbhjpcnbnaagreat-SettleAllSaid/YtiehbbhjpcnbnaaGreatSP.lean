/- What a cycle has done, one instruction after the other: plainly; a ledger beside a guard and a book. -/
import Derived.Test.YtiehbbhjpcnbnaaGreatSN
namespace Go.Proofs.YtiehbbhjpcnbnaaGreat
open Go.RowKit
set_option linter.unusedVariables false

/-- one is settled after the other -/
inductive Ch : ST → List Int → ST → Prop
  | nil (s : ST) : Ch s [] s
  | cons {s s' : ST} {id : Int} {r : List Int} (h : (tryS s id).1 = 0) (hr : Ch (tryS s id).2 r s') : Ch s (id :: r) s'
theorem Ch.app {s s' s'' : ST} {a b : List Int} (h : Ch s a s') (k : Ch s' b s'') : Ch s (a ++ b) s'' := by
  induction h with
  | nil s => exact k
  | cons h hr ih => exact .cons h (ih k)
theorem passL_ch : ∀ (ids : List Int) {s : ST}, s.Ok → Ch s (passL s ids).1 (passL s ids).2
  | [], s, _ => .nil s
  | x :: r, s, h => by
    unfold passL
    split
    · rename_i hx
      exact .cons hx (passL_ch r (try_ok h x))
    · rename_i hx
      rw [try_err h hx]
      exact passL_ch r h
theorem cyc_ch : ∀ (n : Nat) {s : ST}, s.Ok → s.many ≤ n → Ch s (cycS s).1 (cycS s).2.2 ∧ 1 ≤ (cycS s).2.1 ∧ (cycS s).2.1 ≤ (s.many : Int) + 1
  | n, s, h, hm => by
    have hp : Ch s (passS s).1 (passS s).2 := passL_ch _ h
    rw [cyc_step h]
    by_cases he : (passS s).1 = []
    · rw [if_pos he]
      rw [he] at hp
      exact ⟨hp, by show (1 : Int) ≤ 1; omega, by show (1 : Int) ≤ _; omega⟩
    · rw [if_neg he]
      have hl : 0 < (passS s).1.length := by
        cases e : (passS s).1 with
        | nil => exact absurd e he
        | cons _ _ => simp
      have h2 := pass_cnt h
      cases n with
      | zero => omega
      | succ n =>
        obtain ⟨a1, a2, a3⟩ := cyc_ch n (pass_ok h) (by omega)
        refine ⟨hp.app a1, ?_, ?_⟩
        · show (1 : Int) ≤ (cycS (passS s).2).2.1 + 1; omega
        · show (cycS (passS s).2).2.1 + 1 ≤ (s.many : Int) + 1; omega
theorem set_deal {b : Dd.Bk} {id : Int} (x : Int) (h : (b.set id).1 = 0) : (b.set id).2.deal x = b.deal x := by
  obtain ⟨i, hi, he, ha, hs, e⟩ := set_yes h
  rw [e]
  unfold Dd.Bk.deal
  dsimp only
  rw [Dd.atL_set _ _ _ _ (fun _ => rfl)]
  rcases hx : Dd.atL b.l x with _ | j
  · rfl
  · obtain ⟨hj, _⟩ := Dd.atL_some hx
    dsimp only
    rw [Dd.getD_is (by rw [List.length_set]; exact hj), Dd.getD_is hj, List.getElem_set]
    by_cases e : i = j
    · subst e; rw [if_pos rfl]
    · rw [if_neg e]
theorem set_state {b : Dd.Bk} {id : Int} (h : (b.set id).1 = 0) : (b.set id).2.state id = 3 ∧ ∀ x, b.state x = 3 → (b.set id).2.state x = 3 := by
  obtain ⟨i, hi, he, ha, hs, e⟩ := set_yes h
  rw [e]
  unfold Dd.Bk.state
  dsimp only
  have hat : ∀ x, Dd.atL (b.l.set i { b.l[i] with st := 3 }) x = Dd.atL b.l x := fun x => Dd.atL_set _ _ _ _ (fun _ => rfl)
  constructor
  · rw [hat, ha]
    dsimp only
    rw [Dd.getD_is (by rw [List.length_set]; exact hi), List.getElem_set_self]
  · intro x hx
    rw [hat]
    rcases hy : Dd.atL b.l x with _ | j
    · rw [hy] at hx; simp at hx
    · rw [hy] at hx
      obtain ⟨hj, _⟩ := Dd.atL_some hy
      dsimp only at hx ⊢
      rw [Dd.getD_is hj] at hx
      rw [Dd.getD_is (by rw [List.length_set]; exact hj), List.getElem_set]
      split
      · rfl
      · exact hx
def postF (D : Int → Dd.Dl) (l : LM) (ids : List Int) : LM := ids.foldl (fun l id => (l.post (legs (D id))).2) l
theorem postF_take {D : Int → Dd.Dl} {l : LM} {ids : List Int} {k : Nat} (h : k < ids.length) : postF D l (ids.take (k + 1)) = ((postF D l (ids.take k)).post (legs (D ids[k]))).2 := by
  unfold postF; rw [List.take_succ_eq_append_getElem h, List.foldl_append]; rfl
theorem ch_all {s s' : ST} {ids : List Int} (h : Ch s ids s') : (∀ x, s'.b.deal x = s.b.deal x) ∧ (∀ x, s.b.state x = 3 → s'.b.state x = 3) ∧ (∀ id ∈ ids, s'.b.state id = 3 ∧ (s.b.deal id).2 = true) ∧ cnt2 s'.b + ids.length = cnt2 s.b ∧ postF (fun id => (s.b.deal id).1) s.g.l ids = s'.g.l ∧ ∀ k (hk : k < ids.length), ((postF (fun id => (s.b.deal id).1) s.g.l (ids.take k)).post (legs (s.b.deal ids[k]).1)).1 = 0 := by
  induction h with
  | nil s => exact ⟨fun _ => rfl, fun _ h => h, fun id hid => by simp at hid, rfl, rfl, fun k hk => by simp at hk⟩
  | @cons s s' id r h hr ih =>
    obtain ⟨a1, a2, a3, a4, a5, a6⟩ := ih
    obtain ⟨t1, t2, t3, t4, t5⟩ := try_yes h
    obtain ⟨b1, b2⟩ := book_yes t3
    have eb : (tryS s id).2.b = (s.b.set id).2 := by rw [t5]
    have eg : (tryS s id).2.g.l = (s.g.l.post (legs (s.b.deal id).1)).2 := by rw [t5]; show (s.g.book _).2.l = _; rw [b2]; rfl
    have hd : ∀ x, (tryS s id).2.b.deal x = s.b.deal x := fun x => by rw [eb]; exact set_deal x t4
    have hdf : (fun x => ((tryS s id).2.b.deal x).1) = fun x => (s.b.deal x).1 := funext fun x => by rw [hd x]
    rw [hdf, eg] at a5 a6
    rw [eb] at a2 a4
    refine ⟨fun x => (a1 x).trans (hd x), fun x hx => a2 x ((set_state t4).2 x hx), fun y hy => ?_, ?_, a5, fun k hk => ?_⟩
    · rcases List.mem_cons.1 hy with rfl | hy
      · exact ⟨a2 _ (set_state t4).1, t1⟩
      · have := a3 y hy
        rw [hd y] at this
        exact this
    · have := set_cnt t4
      simp only [List.length_cons]
      omega
    · cases k with
      | zero => exact b1
      | succ k =>
        have hk' : k < r.length := by simpa using hk
        have := a6 k hk'
        rw [hd r[k]] at this
        exact this
theorem postF_good {D : Int → Dd.Dl} : ∀ (ids : List Int) {l : LM}, l.Good → (postF D l ids).Good
  | [], l, h => h
  | x :: r, l, h => postF_good r (post_good h _).1

/-- a ledger beside a guard and a book -/
structure OW (K : Nat → Prop) (c : GC) (s : ST) (ob : Nat) (l : LM) (W : World) : Prop where
  q : ∃ Q : Nat → Prop, PL Q W ob l ∧ PS (fun j => K j ∨ Q j) c s W ∧ ∀ j, Q j → j < W.heap.size ∧ ¬ K j
  good : l.Good
section
variable {K K' : Nat → Prop} {c : GC} {s : ST} {ob : Nat} {l : LM} {W W' : World}
theorem OW.ps (h : OW K c s ob l W) : PS K c s W := by obtain ⟨⟨Q, h1, h2, h3⟩, h4⟩ := h; exact h2.less fun j hj => .inl hj
theorem OW.more (h : OW K c s ob l W) (hb : Below W.heap.size W W') (hK : ∀ j, K' j → K j ∨ (W.heap.size ≤ j ∧ j < W'.heap.size)) : OW K' c s ob l W' := by
  obtain ⟨⟨Q, h1, h2, h3⟩, h4⟩ := h
  refine ⟨⟨Q, (PL.live ob l).kept h1 (Kp.of_below (F := fun _ => False) hb) (fun _ _ _ h => h), h2.more hb (fun j hj => ?_), fun j hj => ⟨Nat.lt_of_lt_of_le (h3 j hj).1 hb.size, fun hk => ?_⟩⟩, h4⟩
  · rcases hj with hj | hj
    · exact (hK j hj).imp .inl id
    · exact .inl (.inr hj)
  · rcases hK j hk with e | e
    · exact (h3 j hj).2 e
    · have := (h3 j hj).1; omega
theorem OW.below (h : OW K c s ob l W) (hb : Below W.heap.size W W') : OW K c s ob l W' := h.more hb fun j hj => .inl hj
theorem OW.text (h : OW K c s ob l W) : Calls Tryz.prog 11 #[.pointer (some ⟨ob, 0, none⟩)] W fun e w' => e = .returned (sv l.text) ∧ Below W.heap.size W w' := by
  obtain ⟨⟨Q, h1, h2, h3⟩, h4⟩ := h
  obtain ⟨gB, cB, hP⟩ := h1
  exact ptext_any W hP h4
/-- a call of the guard's or the book's -/
theorem OW.call {s' : ST} (h : OW K c s ob l W) (hc : ∀ {K' : Nat → Prop}, PS K' c s W → PS K' c s' W' ∧ Kp (fun j => ¬ K' j) W W') : OW K c s' ob l W' ∧ Kp (fun j => ¬ K j) W W' := by
  obtain ⟨⟨Q, h1, h2, h3⟩, h4⟩ := h
  obtain ⟨h5, h6⟩ := hc h2
  exact ⟨⟨⟨Q, (PL.live ob l).kept h1 h6 fun j _ hq hn => hn (.inr hq), h5, fun j hj => ⟨Nat.lt_of_lt_of_le (h3 j hj).1 h6.size, (h3 j hj).2⟩⟩, h4⟩, h6.mono fun j _ hn hk => hn (.inl hk)⟩
theorem OW.post {p : Option Addr} {len : Nat} {ps : List Pst} (cap : Nat) (h : OW K c s ob l W) (hr : PRow W p len ps) (hlen : len ≤ 30) : Calls Tryz.prog 16 #[.pointer (some ⟨ob, 0, none⟩), .slice p len cap] W fun e w' => e = .returned (.int .i64 (l.post ps).1) ∧ OW K c s ob (l.post ps).2 w' ∧ Kp (fun j => ¬ K j) W w' := by
  obtain ⟨⟨Q, h1, h2, h3⟩, h4⟩ := h
  have hKl := h2.lt
  refine (post_any (fun j => Q j ∨ W.heap.size ≤ j) ob l p len cap ps W ((PL.live ob l).weak h1 fun j _ hj => .inl hj) h4 hr hlen (fun i hi => .inr hi)).mono ?_
  rintro e w' ⟨e1, e2, e3⟩
  have hs := e3.size
  refine ⟨e1, ⟨⟨fun j => (Q j ∨ W.heap.size ≤ j) ∧ j < w'.heap.size, (PL.live ob _).weak e2 fun j hj hp => ⟨hp, hj⟩, h2.kpm e3 (fun j hj hp => .inr (hp.resolve_right (by omega))) fun j hj => ?_, fun j hj => ⟨hj.2, fun hk => ?_⟩⟩, (post_good h4 ps).1⟩, e3.mono fun j hj hp hk => ?_⟩
  · rcases hj with hj | ⟨hj | hj, hj2⟩
    · exact .inl (.inl hj)
    · exact .inl (.inr hj)
    · exact .inr ⟨hj, hj2⟩
  · rcases hj.1 with e | e
    · exact (h3 j e).2 hk
    · have := hKl j (.inl hk); omega
  · rcases hp with e | e
    · exact (h3 j e).2 hk
    · omega
end
/-- a cycle beside it -/
theorem OW.cycle {K : Nat → Prop} {c : GC} {s : ST} {ob : Nat} {l : LM} {W : World} (h : OW K c s ob l W) : Calls Tryz.prog 13 #[.pointer (some ⟨c.gb, 0, none⟩), .pointer (some ⟨c.kb, 0, none⟩)] W fun e w' => ∃ u, e = .returned (.tuple #[u, .int .i64 (cycS s).2.1]) ∧ Dd.IRow w' u (cycS s).1 ∧ OW (fun j => K j ∨ u.ownBlock = some j) c (cycS s).2.2 ob l w' ∧ Kp (fun j => ¬ K j) W w' := by
  obtain ⟨⟨Q, h1, h2, h3⟩, h4⟩ := h
  refine h2.cycle2.mono ?_
  rintro e w' ⟨u, e1, e2, e3, e4, e5⟩
  refine ⟨u, e1, e2, ⟨⟨Q, (PL.live ob l).kept h1 e4 fun j _ hq hn => hn (.inr hq), e3.less fun j hj => ?_, fun j hj => ⟨Nat.lt_of_lt_of_le (h3 j hj).1 e4.size, fun hk => ?_⟩⟩, h4⟩, e4.mono fun j _ hn hk => hn (.inl hk)⟩
  · rcases hj with (hj | hj) | hj
    · exact .inl (.inl hj)
    · exact .inr hj
    · exact .inl (.inr hj)
  · rcases hk with hk | hk
    · exact (h3 j hj).2 hk
    · have := e5 j hk; have := (h3 j hj).1; omega
/-- a ledger that was read of a ledger's Text -/
theorem OW.read {K : Nat → Prop} {c : GC} {s : ST} {W : World} (h : PS K c s W) : Calls Tryz.prog 10 #[sv s.g.l.text] W fun e w' => ∃ ob, e = .returned (.tuple #[.pointer (some ⟨ob, 0, none⟩), .int .i64 0]) ∧ OW K c s ob s.g.l w' ∧ Below W.heap.size W w' := by
  have hg := h.ok.g.good
  have hsz : (⟨s.g.l.text.toArray⟩ : ByteArray).size ≤ 100000 := by
    have h2 := text_length s.g.l
    have h3 := hg.ok.nm.2
    have h4 := hg.ok.nc.2
    rw [← bl_length, bl_mk, h2]
    have : 8 * s.g.l.nc * (1 + s.g.l.nm) ≤ 64 * 17 := Nat.mul_le_mul (by omega) (by omega)
    omega
  refine (pread_any ⟨s.g.l.text.toArray⟩ W hsz).mono ?_
  rintro e w' ⟨h1, _, h3⟩
  rw [bl_mk] at h1
  obtain ⟨ob, e1, e2⟩ := h1 _ (read_text hg)
  have hKl := h.lt
  refine ⟨ob, e1, ⟨⟨fun j => W.heap.size ≤ j ∧ j < w'.heap.size, (PL.live ob _).weak e2 fun j hj hp => ⟨hp, hj⟩, h.more h3 fun j hj => hj, fun j hj => ⟨hj.2, fun hk => ?_⟩⟩, hg⟩, h3⟩
  have := hKl j hk; omega
end Go.Proofs.YtiehbbhjpcnbnaaGreat
