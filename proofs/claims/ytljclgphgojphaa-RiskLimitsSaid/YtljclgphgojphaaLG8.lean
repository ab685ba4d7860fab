/- The contract of the reference's Copy.
  Two things in memory that lie apart; what the program's ledger must keep to; an operation of the law's; do over any ledger that keeps its contracts. -/
import Derived.Test.YtljclgphgojphaaLG6
import Derived.Test.YtljclgphgojphaaLG2
namespace Go.Proofs.Ytljclgphgojphaa
open Go.RowKit
set_option linter.unusedVariables false

def ivs (f : Nat → Int) (n : Nat) : List Value := (List.range n).map fun i => Value.int .i64 (f i)
theorem ivs_len (f : Nat → Int) (n : Nat) : (ivs f n).length = n := by unfold ivs; simp
theorem ivs_get (f : Nat → Int) {n i : Nat} (h : i < n) : (ivs f n)[i]? = some (.int .i64 (f i)) := by unfold ivs; rw [List.getElem?_map, List.getElem?_range h]; rfl
set_option maxRecDepth 100000 in
/-- append([]int64{}, row...): a new row -/
theorem appI_run (W : World) (s g n c : Nat) (f : Nat → Int) (hs : W.heap[s]? = some (.cells #[] 2 (0, 0))) (hr : IR W g f n) (h1 : 1 ≤ n) (h8 : n ≤ 1000) :
    ∃ g' c' w', (Builtin.append_ #[27, 27] 27 #[.slice (some ⟨s, 0, none⟩) 0 0, .slice (some ⟨g, 0, none⟩) n c]).run Try.prog W = .ok (.slice (some ⟨g', 0, none⟩) n c') w' ∧ IR w' g' f n ∧ s ≤ g' ∧ W.grownBy w' (some s) := by
  obtain ⟨i0, hi, hz0, hz1, hz2⟩ := info_parts Try.info2r
  have hown : W.ownsRow s 2 1 (.slice (some ⟨s, 0, none⟩) 0 0) 0 [] := ⟨by simp, .inr ⟨s, 0, #[], rfl, Nat.le_refl _, hs, Nat.le_refl _, by unfold maxLen; omega, by simp, by simp⟩⟩
  obtain ⟨v', w', h2, h3, h4, _⟩ := run_append_own (P := Try.prog) W s 27 27 2 i0 (.int .i64 0) 1 8 Try.underlying27 hi hz0 hz1 hz2 rfl (by decide) (.slice (some ⟨s, 0, none⟩) 0 0) 0 [] hown ⟨g, 0, none⟩ n c (ivs f n) (by rw [ivs_len]; omega)
    (fun j u hu => by
      have hj : j < n := by have := (List.getElem?_eq_some_iff.1 hu).1; rwa [ivs_len] at this
      rw [ivs_get f hj] at hu
      injection hu with hu
      rw [← hu, Go.WideShapes.add_plain, Nat.zero_add]
      exact hr.cell hj)
    (fun u hu => by unfold ivs at hu; obtain ⟨x, _, rfl⟩ := List.mem_map.1 hu; rfl) (by unfold maxLen; omega) (by omega) (Nat.le_of_lt (obj_lt hs))
  rw [Nat.zero_add, List.nil_append] at h3
  rcases h3.2 with ⟨_, e0⟩ | ⟨g', cap, cur, rfl, hg, hh, hn, hm, hsz, ht⟩
  · omega
  · refine ⟨g', cap, w', h2, ⟨cur, hh, fun i hi => ?_⟩, hg, h4⟩
    have e : (ivs f n)[i]? = cur[i]? := by rw [← ht, List.getElem?_take, if_pos (by omega), Array.getElem?_toList]
    rw [← e, ivs_get f hi]
theorem wpList_run {ops : Array Oper} {rest : List Oper} {o : Oper} {a : Act} {w : World} {Q : Exit → Act → World → Prop} (hgd : o.guard = none) (sl x : Operand) (t t' : TypeId)
    (ho : o.op = .call { callee := .builtin .append, args := #[sl, x], argTypes := #[t, t'] }) (v y v' : Value) (w' : World) (hs : a.eval sl = v) (hx : a.eval x = y) (hr : (Builtin.append_ #[t, t'] o.type #[v, y]).run Try.prog w = .ok v' w')
    (h : wpList Try.prog ops Q rest (a.put o.dst v') w') : wpList Try.prog ops Q (o :: rest) a w := by
  refine wpList_plain hgd fun K hK => ?_
  unfold Oper.wp execOp
  simp only [ho, resolve, invoke, builtin, Sem.run_bind, Sem.run_pure, Result.andThen_ok, List.map_toArray, List.map_cons, List.map_nil, hs, hx, hr]
  exact hK _ _ h
end Go.Proofs.Ytljclgphgojphaa
namespace Go.Proofs.Ytljclgphgojphaa
open Go.RowKit
set_option linter.unusedVariables false

/-- a thing in memory, with its blocks -/
structure Live (X : (Nat → Prop) → World → Prop) : Prop where
  kept : ∀ {P : Nat → Prop} {w w' : World} {F : Nat → Prop}, X P w → Kp F w w' → (∀ j, j < w.heap.size → P j → ¬ F j) → X P w'
  weak : ∀ {P Q : Nat → Prop} {w : World}, X P w → (∀ j, j < w.heap.size → P j → Q j) → X Q w

/-- two things that lie apart, beside what stays -/
def Apart (G : Nat → Prop) (X Y : (Nat → Prop) → World → Prop) (w : World) : Prop :=
  ∃ PF RF : Nat → Prop, X PF w ∧ Y RF w ∧ (∀ j, PF j → ¬ RF j ∧ ¬ G j ∧ j < w.heap.size) ∧ (∀ j, RF j → ¬ G j ∧ j < w.heap.size)

theorem Apart.swap {G : Nat → Prop} {X Y : (Nat → Prop) → World → Prop} {w : World} (h : Apart G X Y w) : Apart G Y X w := by
  obtain ⟨PF, RF, hX, hY, h1, h2⟩ := h
  exact ⟨RF, PF, hY, hX, fun j hj => ⟨fun hp => (h1 j hp).1 hj, h2 j hj⟩, fun j hj => (h1 j hj).2⟩
/-- a call of the first one's -/
theorem Apart.call {α : Type} {G : Nat → Prop} {X Y : (Nat → Prop) → World → Prop} {X' : α → (Nat → Prop) → World → Prop} {φ : α → Ending → Prop} {w : World} {f : FuncId} {args : Array Value}
    (lX : Live X) (lX' : ∀ x, Live (X' x)) (lY : Live Y) (hG : ∀ j, G j → j < w.heap.size) (h : Apart G X Y w)
    (hc : ∀ P : Nat → Prop, X P w → (∀ i, w.heap.size ≤ i → P i) → Calls Try.prog f args w fun e w' => ∃ x, φ x e ∧ X' x P w' ∧ Kp P w w') :
    Calls Try.prog f args w fun e w' => ∃ x, φ x e ∧ Apart G (X' x) Y w' ∧ Kp (fun j => ¬ G j) w w' := by
  obtain ⟨PF, RF, hX, hY, h1, h2⟩ := h
  refine (hc (fun j => PF j ∨ w.heap.size ≤ j) (lX.weak hX fun j _ hj => .inl hj) (fun i hi => .inr hi)).mono ?_
  rintro e w' ⟨x, he, hx, hK⟩
  refine ⟨x, he, ⟨fun j => (PF j ∨ w.heap.size ≤ j) ∧ j < w'.heap.size, RF, (lX' x).weak hx fun j hl hj => ⟨hj, hl⟩, lY.kept hY hK fun j hl hr hp => ?_, fun j hj => ⟨fun hr => ?_, fun hg => ?_, hj.2⟩, fun j hj => ⟨(h2 j hj).1, Nat.lt_of_lt_of_le (h2 j hj).2 hK.size⟩⟩, hK.mono fun j hl hp hg => ?_⟩
  · rcases hp with hp | hp
    · exact (h1 j hp).1 hr
    · omega
  · rcases hj.1 with hp | hp
    · exact (h1 j hp).1 hr
    · have := (h2 j hr).2; omega
  · rcases hj.1 with hp | hp
    · exact (h1 j hp).2.1 hg
    · have := hG j hg; omega
  · rcases hp with hp | hp
    · exact (h1 j hp).2.1 hg
    · omega
/-- a call that only reads, or makes what is new -/
theorem Apart.below {G : Nat → Prop} {X Y : (Nat → Prop) → World → Prop} {w w' : World} (lX : Live X) (lY : Live Y) (h : Apart G X Y w) (hb : Below w.heap.size w w') : Apart G X Y w' := by
  obtain ⟨PF, RF, hX, hY, h1, h2⟩ := h
  have k := Kp.of_below (F := fun _ => False) hb
  exact ⟨PF, RF, lX.kept hX k (fun _ _ _ h => h), lY.kept hY k (fun _ _ _ h => h), fun j hj => ⟨(h1 j hj).1, (h1 j hj).2.1, Nat.lt_of_lt_of_le (h1 j hj).2.2 hb.size⟩, fun j hj => ⟨(h2 j hj).1, Nat.lt_of_lt_of_le (h2 j hj).2 hb.size⟩⟩
/-- more stays: what has been made since -/
theorem Apart.more {G G' : Nat → Prop} {X Y : (Nat → Prop) → World → Prop} {w w' : World} (lX : Live X) (lY : Live Y) (h : Apart G X Y w) (hb : Below w.heap.size w w') (hG : ∀ j, j < w.heap.size → G' j → G j) : Apart G' X Y w' := by
  obtain ⟨PF, RF, hX, hY, h1, h2⟩ := h
  have k := Kp.of_below (F := fun _ => False) hb
  exact ⟨PF, RF, lX.kept hX k (fun _ _ _ h => h), lY.kept hY k (fun _ _ _ h => h), fun j hj => ⟨(h1 j hj).1, fun hg => (h1 j hj).2.1 (hG j (h1 j hj).2.2 hg), Nat.lt_of_lt_of_le (h1 j hj).2.2 hb.size⟩, fun j hj => ⟨fun hg => (h2 j hj).1 (hG j (h2 j hj).2 hg), Nat.lt_of_lt_of_le (h2 j hj).2 hb.size⟩⟩
/-- what the first one is -/
theorem Apart.map {G : Nat → Prop} {X X' Y : (Nat → Prop) → World → Prop} {w : World} (h : Apart G X Y w) (f : ∀ P, X P w → X' P w) : Apart G X' Y w := by
  obtain ⟨PF, RF, hX, hY, r⟩ := h; exact ⟨PF, RF, f _ hX, hY, r⟩


/-- a row of postings that is read -/
def PRow (w : World) (p : Option Addr) (len : Nat) (ps : List Pst) : Prop :=
  ps.length = len ∧ (∀ q ∈ ps, In64 q.m ∧ In64 q.c ∧ In64 q.a) ∧ (len = 0 ∨ ∃ b off, p = some ⟨b, off, none⟩ ∧ b < w.heap.size ∧ ∀ i q, ps[i]? = some q →
    w.cell? ⟨b, off + i * 3, none⟩ = some (.int .i64 q.m) ∧ w.cell? ⟨b, off + i * 3 + 1, none⟩ = some (.int .i64 q.c) ∧ w.cell? ⟨b, off + i * 3 + 2, none⟩ = some (.int .i64 q.a))
theorem PRow.kept {w w' : World} {p : Option Addr} {len : Nat} {ps : List Pst} (h : PRow w p len ps) (hb : Below w.heap.size w w') : PRow w' p len ps := by
  obtain ⟨h1, h2, h3⟩ := h
  refine ⟨h1, h2, h3.imp id ?_⟩
  rintro ⟨b, off, rfl, hlt, hc⟩
  refine ⟨b, off, rfl, Nat.lt_of_lt_of_le hlt hb.size, fun i q hq => ?_⟩
  obtain ⟨c0, c1, c2⟩ := hc i q hq
  exact ⟨(hb.cell (p := ⟨b, off + i * 3, none⟩) hlt).trans c0, (hb.cell (p := ⟨b, off + i * 3 + 1, none⟩) hlt).trans c1, (hb.cell (p := ⟨b, off + i * 3 + 2, none⟩) hlt).trans c2⟩
/-- an operation of the law's -/
structure LOp where
  Do : Int
  m : Int
  c : Int
  v : Int
  a : Int
  g : Int
  p : Option Addr
  len : Nat
  cap : Nat
  ps : List Pst
def LOp.arr (x : LOp) : Array Value := #[.int .i64 x.Do, .int .i64 x.m, .int .i64 x.c, .int .i64 x.v, .int .i64 x.a, .int .i64 x.g, .slice x.p x.len x.cap]
structure LOp.Ok (x : LOp) (w : World) : Prop where
  a : In64 x.a
  g : In64 x.g
  b : PRow w x.p x.len x.ps
/-- what it makes of a ledger -/
def LM.doo (l : LM) (x : LOp) : Int × LM :=
  if x.Do = 0 then l.inn x.m x.c x.a else if x.Do = 1 then l.out x.m x.c x.a else if x.Do = 3 then l.swap x.m x.c x.v x.a x.g else l.post x.ps
theorem doo_good {l : LM} (h : l.Good) (x : LOp) : (l.doo x).2.Good ∧ l.like (l.doo x).2 ∧ ((l.doo x).1 ≠ 0 → (l.doo x).2 = l) := by
  unfold LM.doo
  split
  · exact inn_good h _ _ _
  split
  · exact out_good h _ _ _
  split
  · exact swap_good h _ _ _ _ _
  · exact post_good h _
end Go.Proofs.Ytljclgphgojphaa
