/- The contract of the reference's Add: where the signs differ; and of all.
  The contracts of the reference's Cmp and Fit.
  The contract of the reference's Fit.
  The contracts of the reference's Total and Chain.
  The contract of the reference's Chain.
  The reference's ledger in memory; the contracts of its Has, Get, Out.
  The contract of the reference's New.
  The contract of the reference's Copy.
  Two things in memory that lie apart; what the program's ledger must keep to; an operation of the law's; do over any ledger that keeps its contracts.
  The program's ledger in memory; the contracts of within, hasCurrency, has, Get, Nostro, Size.
  The contracts of New and of a row's plus.
  Rows of eight amounts, stored and loaded. -/
import Derived.Test.YtiehbbhjpcnbnaaGreatMAE
import Derived.Test.YtiehbbhjpcnbnaaGreatMAB
import Derived.Test.YtiehbbhjpcnbnaaGreatW0
import Derived.Laws.CopyOwn
import Derived.Deep.RegionLaw
import Derived.Laws.AppendOwn
import Derived.Laws.MakeOwn
import Derived.Deep.QuietTactic
import Derived.BigQuiet
namespace Go.Proofs.YtiehbbhjpcnbnaaGreat
open Go.RowKit
set_option linter.unusedVariables false

/-- a difference, digit by digit, with what is borrowed -/
structure SubInv (f g : Nat → Int) (i : Nat) (c : Int) (os : List Int) : Prop where
  len : os.length = i
  digs : Digs (dg os)
  c0 : 0 ≤ c
  c1 : c ≤ 1
  eq : val os - c * pw i = dv f i - dv g i
theorem SubInv.first (f g : Nat → Int) : SubInv f g 0 0 [] := ⟨rfl, digs_nil, by omega, by omega, by rw [val_nil]; simp [dv]⟩
theorem SubInv.next {f g : Nat → Int} {i : Nat} {c : Int} {os : List Int} (h : SubInv f g i c os) (d c' : Int) (hd : f i - g i - c = d - 10000 * c') (d0 : 0 ≤ d) (d1 : d ≤ 9999) (c0 : 0 ≤ c') (c1 : c' ≤ 1) : SubInv f g (i + 1) c' (os ++ [d]) := by
  refine ⟨by rw [List.length_append, h.len]; rfl, digs_snoc h.digs d0 d1, c0, c1, ?_⟩
  rw [val_snoc, h.len, dv, dv, pw_succ]
  have e := h.eq
  have e1 : (f i - g i - c) * pw i = f i * pw i - g i * pw i - c * pw i := by rw [Int.sub_mul, Int.sub_mul]
  have e2 : (d - 10000 * c') * pw i = d * pw i - c' * (10000 * pw i) := by rw [Int.sub_mul, Int.mul_left_comm, Int.mul_assoc]
  rw [hd, e2] at e1
  omega
theorem SubInv.last {da db : List Int} {c : Int} {os : List Int} (h : SubInv (dg da) (dg db) da.length c os) (ha : Digs (dg da)) (hb : Digs (dg db)) (hle : val db ≤ val da) : val os = val da - val db := by
  have e := h.eq
  have a1 := (val_bd ha).2
  have hz := dv_zero hb (m := da.length) (n := db.length) (by show val db < _; omega)
  have hv : dv (dg db) da.length = val db := by
    rcases Nat.le_total da.length db.length with hl | hl
    · unfold val
      symm
      refine dv_ext hl (fun i hi => ?_)
      by_cases hi2 : i < db.length
      · exact hz i hi hi2
      · exact dg_out (by omega)
    · exact val_ext hl
  rw [hv] at e
  change val os - c * pw da.length = val da - val db at e
  have o := val_bd h.digs
  rw [h.len] at o
  have c0 := h.c0
  have c1 := h.c1
  rcases (by omega : c = 0 ∨ c = 1) with hc | hc
  · rw [hc] at e; omega
  · rw [hc] at e; omega

end Go.Proofs.YtiehbbhjpcnbnaaGreat
namespace Go.Proofs.YtiehbbhjpcnbnaaGreat
open Go.RowKit
set_option linter.unusedVariables false

theorem sign_of {neg : Bool} {len : Nat} {ds : List Int} {N : Int} (hl : ds.length = len) (hd : Digs (dg ds)) (hN : sgB neg (val ds) = N) (hz : (ds = [] → neg = false) ∧ (0 < len → dg ds (len - 1) ≠ 0)) :
    (len = 0 ∧ N = 0) ∨ (0 < len ∧ neg = true ∧ N < 0) ∨ (0 < len ∧ neg = false ∧ 0 < N) := by
  by_cases h0 : len = 0
  · left
    subst h0
    obtain rfl : ds = [] := List.eq_nil_of_length_eq_zero hl
    rw [val_nil] at hN
    refine ⟨rfl, ?_⟩
    rw [← hN]
    cases neg <;> rfl
  · right
    have hne := hz.2 (by omega)
    have hpos : 0 < val ds := by
      apply Int.not_le.1
      intro hle
      have h1 := dv_zero hd (m := len - 1) (n := ds.length) (by show val ds < _; have := pw_pos (len - 1); omega) (len - 1) (Nat.le_refl _) (by omega)
      exact hne h1
    rw [← hN]
    unfold sgB
    cases neg
    · exact .inr ⟨by omega, rfl, hpos⟩
    · refine .inl ⟨by omega, rfl, ?_⟩
      simp
      exact hpos

end Go.Proofs.YtiehbbhjpcnbnaaGreat
namespace Go.Proofs.YtiehbbhjpcnbnaaGreat
open Go.RowKit
set_option linter.unusedVariables false

/-- an exact number as an amount and an error's number -/
def fitRV (x : Int) : Int := if -9223372036854775808 ≤ x ∧ x ≤ 9223372036854775807 then x else 0
def fitRE (x : Int) : Int := if -9223372036854775808 ≤ x ∧ x ≤ 9223372036854775807 then 0 else 3

/-- behind a call's beginning: its one Big lies in the first block of its own -/
structure Hold1 (w W : World) (n : Bool) (p : Option Addr) (l c : Nat) : Prop where
  c0 : W.cell? ⟨w.heap.size, 0, none⟩ = some (.bool n)
  c1 : W.cell? ⟨w.heap.size, 1, none⟩ = some (.slice p l c)
  size : w.heap.size < W.heap.size
  bel : Below w.heap.size w W
theorem Hold1.kept {w W W' : World} {n : Bool} {p : Option Addr} {l c : Nat} (h : Hold1 w W n p l c) (hb : Below W.heap.size W W') : Hold1 w W' n p l c :=
  ⟨(hb.cell (p := ⟨w.heap.size, 0, none⟩) h.size).trans h.c0, (hb.cell (p := ⟨w.heap.size, 1, none⟩) h.size).trans h.c1, Nat.lt_of_lt_of_le h.size hb.size, h.bel.trans (hb.mono h.bel.size)⟩
theorem Hold1.drew {w W : World} {n : Bool} {p : Option Addr} {l c : Nat} (h : Hold1 w W n p l c) : Hold1 w W.drew n p l c := ⟨h.c0, h.c1, h.size, h.bel.drew⟩
theorem IsB.wide {w : World} {v : Value} {L L' : Nat} {N : Int} (h : IsB w v L N) (hL : L ≤ L') : IsB w v L' N := by
  obtain ⟨neg, p, len, cap, ds, h1, h2, h3, h4, h5, h6⟩ := h
  exact ⟨neg, p, len, cap, ds, h1, h2, h3, h4, Nat.le_trans h5 hL, h6⟩

/-- a number, its upper digits told -/
theorem upper_next {f : Nat → Int} {k : Nat} {V h : Int} (e : V = dv f (k + 1) + h * pw (k + 1)) : V = dv f k + (10000 * h + f k) * pw k := by
  rw [e, dv, pw_succ, Int.add_mul]
  rw [show h * (10000 * pw k) = 10000 * h * pw k from by rw [Int.mul_left_comm, Int.mul_assoc]]
  omega
theorem upper_le {f : Nat → Int} (hf : Digs f) {k : Nat} {V h : Int} (e : V = dv f k + h * pw k) (h0 : 0 ≤ h) : h ≤ V := by
  have a := (dv_bd hf k).1
  have b : h * 1 ≤ h * pw k := Int.mul_le_mul_of_nonneg_left (pw_pos k) h0
  omega

end Go.Proofs.YtiehbbhjpcnbnaaGreat
namespace Go.Proofs.YtiehbbhjpcnbnaaGreat
open Go.RowKit
set_option linter.unusedVariables false
theorem Seq64.at {w W : World} {p : Option Addr} {len : Nat} {zs : List Int} (h : Seq64 w p len zs) (hb : Below w.heap.size w W) {k : Nat} (hk : k < len) :
    ∃ b off, p = some ⟨b, off, none⟩ ∧ b < w.heap.size ∧ W.cell? ⟨b, off + k, none⟩ = some (.int .i64 (zs.getD k 0)) := by
  obtain ⟨_, _, _, h4⟩ := h
  obtain ⟨b, off, e, hlt, hc⟩ := h4.resolve_left (by omega)
  exact ⟨b, off, e, hlt, (hb.cell (p := ⟨b, off + k, none⟩) hlt).trans (hc k hk)⟩

end Go.Proofs.YtiehbbhjpcnbnaaGreat
namespace Go.Proofs.YtiehbbhjpcnbnaaGreat
open Go.RowKit
set_option linter.unusedVariables false
end Go.Proofs.YtiehbbhjpcnbnaaGreat
namespace Go.Proofs.YtiehbbhjpcnbnaaGreat
open Go.RowKit
set_option linter.unusedVariables false

/-- a row of amounts -/
def IR (w : World) (g : Nat) (f : Nat → Int) (n : Nat) : Prop := ∃ cs, w.heap[g]? = some (.cells cs 2 (0, 0)) ∧ ∀ i, i < n → cs[i]? = some (.int .i64 (f i))
theorem IR.lt {w : World} {g n : Nat} {f : Nat → Int} (h : IR w g f n) : g < w.heap.size := by obtain ⟨cs, h, _⟩ := h; exact obj_lt h
theorem IR.cell {w : World} {g n i : Nat} {f : Nat → Int} (h : IR w g f n) (hi : i < n) : w.cell? ⟨g, i, none⟩ = some (.int .i64 (f i)) := by obtain ⟨cs, h1, h2⟩ := h; exact obj_cell h1 (h2 i hi)
theorem IR.free {w : World} {g n : Nat} {f : Nat → Int} (h : IR w g f n) (i : Nat) : w.frozen? ⟨g, i, none⟩ = false := by obtain ⟨cs, h1, h2⟩ := h; exact obj_free h1 i
theorem IR.at {w w' : World} {g n : Nat} {f : Nat → Int} (h : IR w g f n) (hb : w'.heap[g]? = w.heap[g]?) : IR w' g f n := by obtain ⟨cs, h1, h2⟩ := h; exact ⟨cs, hb.trans h1, h2⟩
theorem IR.set {w : World} {g n j : Nat} {f : Nat → Int} (h : IR w g f n) (hj : j < n) (x : Int) : IR (w.setCell ⟨g, j, none⟩ (.int .i64 x)) g (upd f j x) n := by
  obtain ⟨cs, h1, h2⟩ := h
  refine ⟨_, obj_set h1 j _, fun i hi => ?_⟩
  by_cases e : i = j
  · subst e
    have := (Array.getElem?_eq_some_iff.1 (h2 i hi)).1
    rw [upd_same, Array.getElem?_setIfInBounds_self_of_lt this]
  · rw [upd_other _ _ e, Array.getElem?_setIfInBounds_ne (Ne.symm e)]
    exact h2 i hi
theorem IR.congr {w : World} {g n : Nat} {f k : Nat → Int} (h : IR w g f n) (e : ∀ i, i < n → f i = k i) : IR w g k n := by obtain ⟨cs, h1, h2⟩ := h; exact ⟨cs, h1, fun i hi => by rw [← e i hi]; exact h2 i hi⟩
section
variable {P : Nat → Prop} {w w' : World} {b gB cB gN cN : Nat} {l : LM} {g cp : Nat → Nat}
/-- blocks of other kinds are others -/
theorem ty_ne {w : World} {x y : Nat} {cs ds : Array Value} {t u : TypeId} {fr fs : Nat × Nat} (hx : w.heap[x]? = some (.cells cs t fr)) (hy : w.heap[y]? = some (.cells ds u fs)) (h : t ≠ u) : x ≠ y := by
  rintro rfl
  rw [hx] at hy
  injection hy with hy
  injection hy with _ hy _
  exact h hy
end
end Go.Proofs.YtiehbbhjpcnbnaaGreat
namespace Go.Proofs.YtiehbbhjpcnbnaaGreat
open Go.RowKit
set_option linter.unusedVariables false

/-- a slice of slices of the call's own -/
def OwnR (B : Nat) (w : World) (v : Value) (xs : List Value) : Prop := w.ownsRow B 56 1 v xs.length xs
theorem Tryz.info42r : (Tryz.prog.info? 56).map (fun i => (i.zero, i.size, i.bytes)) = some (some (.slice none 0 0), 1, 24) := by kernel_rfl
theorem Tryz.info2r : (Tryz.prog.info? 2).map (fun i => (i.zero, i.size, i.bytes)) = some (some (.int .i64 0), 1, 8) := by kernel_rfl
theorem OwnR.block {B : Nat} {w w' : World} {v : Value} {l : List Value} (h : OwnR B w v l) (hb : ∀ g, v.ownBlock = some g → w'.heap[g]? = w.heap[g]?) : OwnR B w' v l := by
  obtain ⟨hlen, h⟩ := h
  refine ⟨hlen, h.imp id ?_⟩
  rintro ⟨g, cap, cur, rfl, hg, hh, r⟩
  exact ⟨g, cap, cur, rfl, hg, (hb g rfl).trans hh, r⟩
theorem OwnR.lt {B : Nat} {w : World} {v : Value} {l : List Value} (h : OwnR B w v l) : ∀ k, v.ownBlock = some k → B ≤ k ∧ k < w.heap.size := World.ownsRow.lt h
theorem OwnR.shape {B : Nat} {w : World} {v : Value} {l : List Value} (h : OwnR B w v l) : ∃ p cap, v = .slice p l.length cap := by
  rcases h.2 with ⟨rfl, h0⟩ | ⟨g, cap, cur, rfl, _⟩
  · exact ⟨none, 0, by rw [h0]⟩
  · exact ⟨_, cap, rfl⟩
theorem OwnR.rows {B : Nat} {w : World} {v : Value} {l : List Value} (h : OwnR B w v l) (h0 : l ≠ []) : ∃ (g cap : Nat) (cs : Array Value), v = .slice (some ⟨g, 0, none⟩) l.length cap ∧ B ≤ g ∧ w.heap[g]? = some (.cells cs 56 (0, 0)) ∧ ∀ (i : Nat) (x : Value), l[i]? = some x → cs[i]? = some x := by
  rcases h.2 with ⟨rfl, h1⟩ | ⟨g, cap, cur, rfl, hg, hh, hn, hm, hs, ht⟩
  · exact absurd (List.eq_nil_of_length_eq_zero h1) h0
  · refine ⟨g, cap, cur, rfl, hg, hh, fun i x hx => ?_⟩
    rw [← ht, List.getElem?_take] at hx
    split at hx
    · rwa [Array.getElem?_toList] at hx
    · cases hx
theorem step_appR {P : Program} {ops : Array Oper} {o : Oper} {a : Act} {w : World} {K : Act → World → Prop} {Q : Exit → Act → World → Prop} {E : Prop}
    (hg : o.guard = none) (s x : Operand) (t t' : TypeId) (hop : o.op = Op.call { callee := Callee.builtin Builtin.append, args := #[s, x], argTypes := #[t, t'] })
    (v y v' : Value) (w' : World) (hs : a.eval s = v) (hx : a.eval x = y) (hr : (Builtin.append_ #[t, t'] o.type #[v, y]).run P w = .ok v' w') (hK : K (a.put o.dst v') w') :
    if Region.wanted o (yielded ops a.tmps) = true then Oper.wp P o a w K Q else E := by
  have hw : Region.wanted o (yielded ops a.tmps) = true := by simp [Region.wanted, hg]
  rw [if_pos hw]
  unfold Oper.wp
  simp [execOp, hop, resolve, invoke, builtin, hs, hx, hr, Result.andThen]
  exact hK
/-- rows of amounts that are 0 -/
def zi (n : Nat) : Array Value := madeCells #[Value.int .i64 0] n
theorem zi_get (n : Nat) : ∀ i, i < n → (zi n)[i]? = some (.int .i64 0) := fun i hi => by
  unfold zi madeCells
  simp [hi, Nat.mod_one]
theorem make_amounts (n : Nat) (hn : n ≤ 1000) (w : World) :
    (Instr.makeSlice 56 (.int .i64 (n : Int)) (.int .i64 (n : Int))).run Tryz.prog w = .ok (.slice (some ⟨w.heap.size, 0, none⟩) n n) (w.alloc (.cells (zi n) 2)) := by
  obtain ⟨i0, hi, hz0, hz1, hz2⟩ := info_parts Tryz.info2r
  have hb : (i0.bytes : Int) * (n : Int) ≤ 281474976710656 := by rw [hz2]; omega
  have hr := run_make (P := Tryz.prog) w 56 2 i0 (.int .i64 0) Tryz.underlying56 hi hz0 .i64 .i64 n n (by omega) (by omega) hb (by omega)
  simp only [Int.toNat_natCast, hz1, Nat.mul_one] at hr
  exact hr
theorem IR.zero {w : World} {g n : Nat} (h : w.heap[g]? = some (.cells (zi n) 2 (0, 0))) : IR w g (fun _ => 0) n := ⟨_, h, zi_get n⟩

def newOk (nm nc : Int) : Bool := decide (1 ≤ nm ∧ nm ≤ 16 ∧ 1 ≤ nc ∧ nc ≤ 8)
end Go.Proofs.YtiehbbhjpcnbnaaGreat
namespace Go.Proofs.YtiehbbhjpcnbnaaGreat
open Go.RowKit
set_option linter.unusedVariables false

def ivs (f : Nat → Int) (n : Nat) : List Value := (List.range n).map fun i => Value.int .i64 (f i)
theorem ivs_len (f : Nat → Int) (n : Nat) : (ivs f n).length = n := by unfold ivs; simp
theorem ivs_get (f : Nat → Int) {n i : Nat} (h : i < n) : (ivs f n)[i]? = some (.int .i64 (f i)) := by unfold ivs; rw [List.getElem?_map, List.getElem?_range h]; rfl
set_option maxRecDepth 100000 in
/-- append([]int64{}, row...): a new row -/
theorem appI_run (W : World) (s g n c : Nat) (f : Nat → Int) (hs : W.heap[s]? = some (.cells #[] 2 (0, 0))) (hr : IR W g f n) (h1 : 1 ≤ n) (h8 : n ≤ 1000) :
    ∃ g' c' w', (Builtin.append_ #[56, 56] 56 #[.slice (some ⟨s, 0, none⟩) 0 0, .slice (some ⟨g, 0, none⟩) n c]).run Tryz.prog W = .ok (.slice (some ⟨g', 0, none⟩) n c') w' ∧ IR w' g' f n ∧ s ≤ g' ∧ W.grownBy w' (some s) := by
  obtain ⟨i0, hi, hz0, hz1, hz2⟩ := info_parts Tryz.info2r
  have hown : W.ownsRow s 2 1 (.slice (some ⟨s, 0, none⟩) 0 0) 0 [] := ⟨by simp, .inr ⟨s, 0, #[], rfl, Nat.le_refl _, hs, Nat.le_refl _, by unfold maxLen; omega, by simp, by simp⟩⟩
  obtain ⟨v', w', h2, h3, h4, _⟩ := run_append_own (P := Tryz.prog) W s 56 56 2 i0 (.int .i64 0) 1 8 Tryz.underlying56 hi hz0 hz1 hz2 rfl (by decide) (.slice (some ⟨s, 0, none⟩) 0 0) 0 [] hown ⟨g, 0, none⟩ n c (ivs f n) (by rw [ivs_len]; omega)
    (fun j u hu => by
      have hj : j < n := by have := (List.getElem?_eq_some_iff.1 hu).1; rwa [ivs_len] at this
      rw [ivs_get f hj] at hu
      injection hu with hu
      rw [← hu, Go.WideShapes.add_plain, Nat.zero_add]
      exact hr.cell hj)
    (fun u hu => by unfold ivs at hu; obtain ⟨x, _, rfl⟩ := List.mem_map.1 hu; rfl) (by unfold maxLen; omega) (by omega) (Nat.le_of_lt (obj_lt hs))
  rw [Nat.zero_add, List.nil_append] at h3
  rcases h3.2 with ⟨_, e0⟩ | ⟨g', cap, cur, rfl, hg, hh, hn, hm, hsz, ht⟩
  · omega
  · refine ⟨g', cap, w', h2, ⟨cur, hh, fun i hi => ?_⟩, hg, h4⟩
    have e : (ivs f n)[i]? = cur[i]? := by rw [← ht, List.getElem?_take, if_pos (by omega), Array.getElem?_toList]
    rw [← e, ivs_get f hi]
theorem wpList_run {ops : Array Oper} {rest : List Oper} {o : Oper} {a : Act} {w : World} {Q : Exit → Act → World → Prop} (hgd : o.guard = none) (sl x : Operand) (t t' : TypeId)
    (ho : o.op = .call { callee := .builtin .append, args := #[sl, x], argTypes := #[t, t'] }) (v y v' : Value) (w' : World) (hs : a.eval sl = v) (hx : a.eval x = y) (hr : (Builtin.append_ #[t, t'] o.type #[v, y]).run Tryz.prog w = .ok v' w')
    (h : wpList Tryz.prog ops Q rest (a.put o.dst v') w') : wpList Tryz.prog ops Q (o :: rest) a w := by
  refine wpList_plain hgd fun K hK => ?_
  unfold Oper.wp execOp
  simp only [ho, resolve, invoke, builtin, Sem.run_bind, Sem.run_pure, Result.andThen_ok, List.map_toArray, List.map_cons, List.map_nil, hs, hx, hr]
  exact hK _ _ h
end Go.Proofs.YtiehbbhjpcnbnaaGreat
namespace Go.Proofs.YtiehbbhjpcnbnaaGreat
open Go.RowKit
set_option linter.unusedVariables false

/-- a thing in memory, with its blocks -/
structure Live (X : (Nat → Prop) → World → Prop) : Prop where
  kept : ∀ {P : Nat → Prop} {w w' : World} {F : Nat → Prop}, X P w → Kp F w w' → (∀ j, j < w.heap.size → P j → ¬ F j) → X P w'
  weak : ∀ {P Q : Nat → Prop} {w : World}, X P w → (∀ j, j < w.heap.size → P j → Q j) → X Q w

/-- two things that lie apart, beside what stays -/
def Apart (G : Nat → Prop) (X Y : (Nat → Prop) → World → Prop) (w : World) : Prop :=
  ∃ PF RF : Nat → Prop, X PF w ∧ Y RF w ∧ (∀ j, PF j → ¬ RF j ∧ ¬ G j ∧ j < w.heap.size) ∧ (∀ j, RF j → ¬ G j ∧ j < w.heap.size)

theorem Apart.swap {G : Nat → Prop} {X Y : (Nat → Prop) → World → Prop} {w : World} (h : Apart G X Y w) : Apart G Y X w := by
  obtain ⟨PF, RF, hX, hY, h1, h2⟩ := h
  exact ⟨RF, PF, hY, hX, fun j hj => ⟨fun hp => (h1 j hp).1 hj, h2 j hj⟩, fun j hj => (h1 j hj).2⟩
/-- a call of the first one's -/
theorem Apart.call {α : Type} {G : Nat → Prop} {X Y : (Nat → Prop) → World → Prop} {X' : α → (Nat → Prop) → World → Prop} {φ : α → Ending → Prop} {w : World} {f : FuncId} {args : Array Value}
    (lX : Live X) (lX' : ∀ x, Live (X' x)) (lY : Live Y) (hG : ∀ j, G j → j < w.heap.size) (h : Apart G X Y w)
    (hc : ∀ P : Nat → Prop, X P w → (∀ i, w.heap.size ≤ i → P i) → Calls Tryz.prog f args w fun e w' => ∃ x, φ x e ∧ X' x P w' ∧ Kp P w w') :
    Calls Tryz.prog f args w fun e w' => ∃ x, φ x e ∧ Apart G (X' x) Y w' ∧ Kp (fun j => ¬ G j) w w' := by
  obtain ⟨PF, RF, hX, hY, h1, h2⟩ := h
  refine (hc (fun j => PF j ∨ w.heap.size ≤ j) (lX.weak hX fun j _ hj => .inl hj) (fun i hi => .inr hi)).mono ?_
  rintro e w' ⟨x, he, hx, hK⟩
  refine ⟨x, he, ⟨fun j => (PF j ∨ w.heap.size ≤ j) ∧ j < w'.heap.size, RF, (lX' x).weak hx fun j hl hj => ⟨hj, hl⟩, lY.kept hY hK fun j hl hr hp => ?_, fun j hj => ⟨fun hr => ?_, fun hg => ?_, hj.2⟩, fun j hj => ⟨(h2 j hj).1, Nat.lt_of_lt_of_le (h2 j hj).2 hK.size⟩⟩, hK.mono fun j hl hp hg => ?_⟩
  · rcases hp with hp | hp
    · exact (h1 j hp).1 hr
    · omega
  · rcases hj.1 with hp | hp
    · exact (h1 j hp).1 hr
    · have := (h2 j hr).2; omega
  · rcases hj.1 with hp | hp
    · exact (h1 j hp).2.1 hg
    · have := hG j hg; omega
  · rcases hp with hp | hp
    · exact (h1 j hp).2.1 hg
    · omega
/-- a call that only reads, or makes what is new -/
theorem Apart.below {G : Nat → Prop} {X Y : (Nat → Prop) → World → Prop} {w w' : World} (lX : Live X) (lY : Live Y) (h : Apart G X Y w) (hb : Below w.heap.size w w') : Apart G X Y w' := by
  obtain ⟨PF, RF, hX, hY, h1, h2⟩ := h
  have k := Kp.of_below (F := fun _ => False) hb
  exact ⟨PF, RF, lX.kept hX k (fun _ _ _ h => h), lY.kept hY k (fun _ _ _ h => h), fun j hj => ⟨(h1 j hj).1, (h1 j hj).2.1, Nat.lt_of_lt_of_le (h1 j hj).2.2 hb.size⟩, fun j hj => ⟨(h2 j hj).1, Nat.lt_of_lt_of_le (h2 j hj).2 hb.size⟩⟩
/-- more stays: what has been made since -/
theorem Apart.more {G G' : Nat → Prop} {X Y : (Nat → Prop) → World → Prop} {w w' : World} (lX : Live X) (lY : Live Y) (h : Apart G X Y w) (hb : Below w.heap.size w w') (hG : ∀ j, j < w.heap.size → G' j → G j) : Apart G' X Y w' := by
  obtain ⟨PF, RF, hX, hY, h1, h2⟩ := h
  have k := Kp.of_below (F := fun _ => False) hb
  exact ⟨PF, RF, lX.kept hX k (fun _ _ _ h => h), lY.kept hY k (fun _ _ _ h => h), fun j hj => ⟨(h1 j hj).1, fun hg => (h1 j hj).2.1 (hG j (h1 j hj).2.2 hg), Nat.lt_of_lt_of_le (h1 j hj).2.2 hb.size⟩, fun j hj => ⟨fun hg => (h2 j hj).1 (hG j (h2 j hj).2 hg), Nat.lt_of_lt_of_le (h2 j hj).2 hb.size⟩⟩
/-- what the first one is -/
theorem Apart.map {G : Nat → Prop} {X X' Y : (Nat → Prop) → World → Prop} {w : World} (h : Apart G X Y w) (f : ∀ P, X P w → X' P w) : Apart G X' Y w := by
  obtain ⟨PF, RF, hX, hY, r⟩ := h; exact ⟨PF, RF, f _ hX, hY, r⟩


/-- a row of postings that is read -/
def PRow (w : World) (p : Option Addr) (len : Nat) (ps : List Pst) : Prop :=
  ps.length = len ∧ (∀ q ∈ ps, In64 q.m ∧ In64 q.c ∧ In64 q.a) ∧ (len = 0 ∨ ∃ b off, p = some ⟨b, off, none⟩ ∧ b < w.heap.size ∧ ∀ i q, ps[i]? = some q →
    w.cell? ⟨b, off + i * 3, none⟩ = some (.int .i64 q.m) ∧ w.cell? ⟨b, off + i * 3 + 1, none⟩ = some (.int .i64 q.c) ∧ w.cell? ⟨b, off + i * 3 + 2, none⟩ = some (.int .i64 q.a))
theorem PRow.kept {w w' : World} {p : Option Addr} {len : Nat} {ps : List Pst} (h : PRow w p len ps) (hb : Below w.heap.size w w') : PRow w' p len ps := by
  obtain ⟨h1, h2, h3⟩ := h
  refine ⟨h1, h2, h3.imp id ?_⟩
  rintro ⟨b, off, rfl, hlt, hc⟩
  refine ⟨b, off, rfl, Nat.lt_of_lt_of_le hlt hb.size, fun i q hq => ?_⟩
  obtain ⟨c0, c1, c2⟩ := hc i q hq
  exact ⟨(hb.cell (p := ⟨b, off + i * 3, none⟩) hlt).trans c0, (hb.cell (p := ⟨b, off + i * 3 + 1, none⟩) hlt).trans c1, (hb.cell (p := ⟨b, off + i * 3 + 2, none⟩) hlt).trans c2⟩
/-- an operation of the law's -/
structure LOp where
  Do : Int
  m : Int
  c : Int
  v : Int
  a : Int
  g : Int
  p : Option Addr
  len : Nat
  cap : Nat
  ps : List Pst
def LOp.arr (x : LOp) : Array Value := #[.int .i64 x.Do, .int .i64 x.m, .int .i64 x.c, .int .i64 x.v, .int .i64 x.a, .int .i64 x.g, .slice x.p x.len x.cap]
structure LOp.Ok (x : LOp) (w : World) : Prop where
  a : In64 x.a
  g : In64 x.g
  b : PRow w x.p x.len x.ps
/-- what it makes of a ledger -/
def LM.doo (l : LM) (x : LOp) : Int × LM :=
  if x.Do = 0 then l.inn x.m x.c x.a else if x.Do = 1 then l.out x.m x.c x.a else if x.Do = 3 then l.swap x.m x.c x.v x.a x.g else l.post x.ps
theorem doo_good {l : LM} (h : l.Good) (x : LOp) : (l.doo x).2.Good ∧ l.like (l.doo x).2 ∧ ((l.doo x).1 ≠ 0 → (l.doo x).2 = l) := by
  unfold LM.doo
  split
  · exact inn_good h _ _ _
  split
  · exact out_good h _ _ _
  split
  · exact swap_good h _ _ _ _ _
  · exact post_good h _
end Go.Proofs.YtiehbbhjpcnbnaaGreat
namespace Go.Proofs.YtiehbbhjpcnbnaaGreat
open Go.RowKit
set_option linter.unusedVariables false

/-- a row of eight amounts -/
def r8 (f : Nat → Int) : Array Value := #[.int .i64 (f 0), .int .i64 (f 1), .int .i64 (f 2), .int .i64 (f 3), .int .i64 (f 4), .int .i64 (f 5), .int .i64 (f 6), .int .i64 (f 7)]
theorem lt8 {c : Nat} (h : c < 8) : c = 0 ∨ c = 1 ∨ c = 2 ∨ c = 3 ∨ c = 4 ∨ c = 5 ∨ c = 6 ∨ c = 7 := by omega
theorem r8_get (f : Nat → Int) {c : Nat} (h : c < 8) : (r8 f)[c]? = some (.int .i64 (f c)) := by
  rcases lt8 h with rfl | rfl | rfl | rfl | rfl | rfl | rfl | rfl <;> rfl
theorem r8_ext {f g : Nat → Int} (h : ∀ c, c < 8 → f c = g c) : r8 f = r8 g := by
  unfold r8
  rw [h 0 (by omega), h 1 (by omega), h 2 (by omega), h 3 (by omega), h 4 (by omega), h 5 (by omega), h 6 (by omega), h 7 (by omega)]
theorem r8_set (f : Nat → Int) {c : Nat} (h : c < 8) (x : Int) : (r8 f).setIfInBounds c (.int .i64 x) = r8 (upd f c x) := by
  rcases lt8 h with rfl | rfl | rfl | rfl | rfl | rfl | rfl | rfl <;> rfl
/-- a ledger's own cells -/
def lArr (l : LM) (gB cB : Nat) : Array Value := #[.int .i64 (l.nc : Nat), .int .i64 (l.N 0), .int .i64 (l.N 1), .int .i64 (l.N 2), .int .i64 (l.N 3), .int .i64 (l.N 4), .int .i64 (l.N 5), .int .i64 (l.N 6), .int .i64 (l.N 7), .slice (some ⟨gB, 0, none⟩) l.nm cB]
theorem lArr_nos (l : LM) (gB cB : Nat) {c : Nat} (h : c < 8) : (lArr l gB cB)[1 + c]? = some (.int .i64 (l.N c)) := by
  rcases lt8 h with rfl | rfl | rfl | rfl | rfl | rfl | rfl | rfl <;> rfl
/-- balances in memory: rows of eight -/
def BR (w : World) (g : Nat) (B : Nat → Nat → Int) (n : Nat) : Prop := ∃ cs, w.heap[g]? = some (.cells cs 77 (0, 0)) ∧ ∀ m, m < n → ∀ c, c < 8 → cs[m * 8 + c]? = some (.int .i64 (B m c))
theorem BR.lt {w : World} {g n : Nat} {B : Nat → Nat → Int} (h : BR w g B n) : g < w.heap.size := by obtain ⟨cs, h, _⟩ := h; exact obj_lt h
theorem BR.cell {w : World} {g n : Nat} {B : Nat → Nat → Int} (h : BR w g B n) {m c : Nat} (hm : m < n) (hc : c < 8) : w.cell? ⟨g, m * 8 + c, none⟩ = some (.int .i64 (B m c)) := by obtain ⟨cs, h1, h2⟩ := h; exact obj_cell h1 (h2 m hm c hc)
theorem BR.free {w : World} {g n : Nat} {B : Nat → Nat → Int} (h : BR w g B n) (i : Nat) : w.frozen? ⟨g, i, none⟩ = false := by obtain ⟨cs, h1, h2⟩ := h; exact obj_free h1 i
theorem BR.at {w w' : World} {g n : Nat} {B : Nat → Nat → Int} (h : BR w g B n) (hb : w'.heap[g]? = w.heap[g]?) : BR w' g B n := by obtain ⟨cs, h1, h2⟩ := h; exact ⟨cs, hb.trans h1, h2⟩
theorem BR.congr {w : World} {g n : Nat} {B C : Nat → Nat → Int} (h : BR w g B n) (e : ∀ m c, m < n → c < 8 → B m c = C m c) : BR w g C n := by
  obtain ⟨cs, h1, h2⟩ := h
  exact ⟨cs, h1, fun m hm c hc => by rw [← e m c hm hc]; exact h2 m hm c hc⟩
/-- f, but row i is r -/
def updR (B : Nat → Nat → Int) (i : Nat) (r : Nat → Int) : Nat → Nat → Int := fun a => if a = i then r else B a
theorem updR_same (B : Nat → Nat → Int) (i : Nat) (r : Nat → Int) : updR B i r i = r := if_pos rfl
theorem updR_other (B : Nat → Nat → Int) {i a : Nat} (r : Nat → Int) (h : a ≠ i) : updR B i r a = B a := if_neg h
/-- the program's ledger, by its blocks -/
structure PLv (P : Nat → Prop) (w : World) (b : Nat) (l : LM) (gB cB : Nat) : Prop where
  obj : w.heap[b]? = some (.cells (lArr l gB cB) 82 (0, 0))
  bal : BR w gB l.B l.nm
  nm : l.nm ≤ 16
  nc : l.nc ≤ 8
  own : P b ∧ P gB
def PL (P : Nat → Prop) (w : World) (b : Nat) (l : LM) : Prop := ∃ gB cB, PLv P w b l gB cB
theorem PL.live (b : Nat) (l : LM) : Live fun P w => PL P w b l := by
  refine ⟨?_, ?_⟩
  · rintro P w w' F ⟨gB, cB, h⟩ hK hF
    have hb := obj_lt h.obj
    have hg := h.bal.lt
    exact ⟨gB, cB, (hK.block _ hb (hF _ hb h.own.1)).trans h.obj, h.bal.at (hK.block _ hg (hF _ hg h.own.2)), h.nm, h.nc, h.own⟩
  · rintro P Q w ⟨gB, cB, h⟩ hq
    exact ⟨gB, cB, h.obj, h.bal, h.nm, h.nc, hq _ (obj_lt h.obj) h.own.1, hq _ h.bal.lt h.own.2⟩
section
variable {P : Nat → Prop} {w w' : World} {b gB cB : Nat} {l : LM}
theorem PLv.c0 (h : PLv P w b l gB cB) : w.cell? ⟨b, 0, none⟩ = some (.int .i64 (l.nc : Nat)) := obj_cell h.obj rfl
theorem PLv.c9 (h : PLv P w b l gB cB) : w.cell? ⟨b, 9, none⟩ = some (.slice (some ⟨gB, 0, none⟩) l.nm cB) := obj_cell h.obj rfl
theorem PLv.cn (h : PLv P w b l gB cB) {c : Nat} (hc : c < 8) : w.cell? ⟨b, 1 + c, none⟩ = some (.int .i64 (l.N c)) := obj_cell h.obj (lArr_nos l gB cB hc)
theorem PLv.kept (h : PLv P w b l gB cB) (hb : ∀ j, j < w.heap.size → P j → w'.heap[j]? = w.heap[j]?) : PLv P w' b l gB cB :=
  ⟨(hb _ (obj_lt h.obj) h.own.1).trans h.obj, h.bal.at (hb _ h.bal.lt h.own.2), h.nm, h.nc, h.own⟩
theorem PLv.below (h : PLv P w b l gB cB) (hb : Below w.heap.size w w') : PLv P w' b l gB cB := h.kept fun j hj _ => hb.block j hj
end
def LM.hasC (l : LM) (c : Int) : Bool := decide (0 ≤ c ∧ c < l.nc)
theorem LM.hasC_iff {l : LM} {c : Int} : l.hasC c = true ↔ 0 ≤ c ∧ c < l.nc := by unfold LM.hasC; simp
theorem LM.has_eq (l : LM) (m c : Int) : l.has m c = (decide (0 ≤ m) && decide (m < l.nm) && l.hasC c) := by unfold LM.has LM.hasC; simp [Bool.decide_and, Bool.and_assoc]

theorem retL_bool {a b : Bool} (h : a = b) : Ending.returned (.bool a) = .returned (.bool b) := by rw [h]
set_option maxHeartbeats 1000000 in
theorem within_any (x y : Int) (w : World) : Calls Tryz.prog 47 #[.int .i64 x, .int .i64 y] w fun e w' => e = .returned (.bool (decide (1 ≤ x) && decide (x ≤ y))) ∧ w = w' := by
  by_cases h1 : 1 ≤ x
  · by_cases h2 : x ≤ y
    · go_enter Tryz.func47, Tryz.ntmps47
      go_wp2_with fail
      go_ret
      exact ⟨retL_bool (by simp; omega), rfl⟩
    · go_enter Tryz.func47, Tryz.ntmps47
      go_wp2_with fail
      go_ret
      exact ⟨retL_bool (by simp; omega), rfl⟩
  · go_enter Tryz.func47, Tryz.ntmps47
    go_wp2_with fail
    go_ret
    exact ⟨retL_bool (by simp; omega), rfl⟩

set_option maxHeartbeats 1000000 in
theorem hasC_any {P : Nat → Prop} {b gB cB : Nat} {l : LM} (c : Int) (w : World) (h : PLv P w b l gB cB) :
    Calls Tryz.prog 60 #[.pointer (some ⟨b, 0, none⟩), .int .i64 c] w fun e w' => e = .returned (.bool (l.hasC c)) ∧ w = w' := by
  have c0 := h.c0
  clear h
  by_cases h1 : 0 ≤ c
  · by_cases h2 : c < (l.nc : Int)
    · go_enter Tryz.func60, Tryz.ntmps60
      go_wp2_with fail
      go_ret
      exact ⟨retL_bool (LM.hasC_iff.2 ⟨h1, h2⟩).symm, rfl⟩
    · go_enter Tryz.func60, Tryz.ntmps60
      go_wp2_with fail
      go_ret
      exact ⟨retL_bool (by unfold LM.hasC; simp; omega), rfl⟩
  · go_enter Tryz.func60, Tryz.ntmps60
    go_wp2_with fail
    go_ret
    exact ⟨retL_bool (by unfold LM.hasC; simp; omega), rfl⟩

set_option maxHeartbeats 1000000 in
theorem hasL_any {P : Nat → Prop} {b gB cB : Nat} {l : LM} (m c : Int) (w : World) (h : PLv P w b l gB cB) :
    Calls Tryz.prog 36 #[.pointer (some ⟨b, 0, none⟩), .int .i64 m, .int .i64 c] w fun e w' => e = .returned (.bool (l.has m c)) ∧ w = w' := by
  have c9 := h.c9
  have hC := hasC_any c w h
  have he := l.has_eq m c
  replace he := Lib.hid he
  replace hC := Lib.hid hC
  clear h
  by_cases h1 : 0 ≤ m
  · by_cases h2 : m < (l.nm : Int)
    · go_enter Tryz.func36, Tryz.ntmps36
      go_wp2_with fail
      with_reducible refine hC.out.mono ?_
      rintro e w1 ⟨rfl, rfl⟩
      go_wp2_with fail
      go_ret
      exact ⟨retL_bool (by rw [he.out]; simp [h1, h2]), rfl⟩
    · go_enter Tryz.func36, Tryz.ntmps36
      go_wp2_with fail
      go_ret
      exact ⟨retL_bool (by rw [he.out]; simp; intros; omega), rfl⟩
  · go_enter Tryz.func36, Tryz.ntmps36
    go_wp2_with fail
    go_ret
    exact ⟨retL_bool (by rw [he.out]; simp; intros; omega), rfl⟩

set_option maxHeartbeats 1000000 in
theorem get_any {P : Nat → Prop} {b gB cB : Nat} {l : LM} (m c : Int) (w : World) (h : PLv P w b l gB cB) :
    Calls Tryz.prog 21 #[.pointer (some ⟨b, 0, none⟩), .int .i64 m, .int .i64 c] w fun e w' => e = .returned (.int .i64 (l.get m c)) ∧ w = w' := by
  have hH := hasL_any m c w h
  unfold LM.get
  cases hh : l.has m c with
  | false =>
    rw [hh] at hH
    replace hH := Lib.hid hH
    replace hh := Lib.hid hh
    clear h
    go_enter Tryz.func21, Tryz.ntmps21
    go_wp2_with fail
    with_reducible refine hH.out.mono ?_
    rintro e w1 ⟨rfl, rfl⟩
    go_wp2_with fail
    go_ret
    exact ⟨rfl, rfl⟩
  | true =>
    obtain ⟨i, j, rfl, rfl, hi, hj⟩ := LM.has_nat hh
    have hn8 := h.nc
    have hj8 : j < 8 := by omega
    have c9 := h.c9
    have x0 := h.bal.cell hi hj8
    have hiz : (i : Int) < (l.nm : Int) := by omega
    have hjz : (j : Int) < 8 := by omega
    rw [hh] at hH
    replace hH := Lib.hid hH
    replace hh := Lib.hid hh
    clear h
    simp only [Int.toNat_natCast]
    go_enter Tryz.func21, Tryz.ntmps21
    go_wp2_with fail
    with_reducible refine hH.out.mono ?_
    rintro e w1 ⟨rfl, rfl⟩
    go_wp2_with fail
    go_ret
    exact ⟨rfl, rfl⟩

set_option maxHeartbeats 1000000 in
theorem psize_any {P : Nat → Prop} {b gB cB : Nat} {l : LM} (w : World) (h : PLv P w b l gB cB) :
    Calls Tryz.prog 27 #[.pointer (some ⟨b, 0, none⟩)] w fun e w' => e = .returned (.tuple #[.int .i64 (l.nm : Nat), .int .i64 (l.nc : Nat)]) ∧ ∃ n, w' = w.drewN n := by
  have c9 := h.c9
  have c0 := h.c0
  clear h
  go_enter Tryz.func27, Tryz.ntmps27
  go_upto_region 1 with (fail)
  go_quiet (fail)
  go_wp2_with fail
  go_ret2
  exact ⟨rfl, _, rfl⟩
end Go.Proofs.YtiehbbhjpcnbnaaGreat
namespace Go.Proofs.YtiehbbhjpcnbnaaGreat
open Go.RowKit
set_option linter.unusedVariables false

theorem Tryz.info59r : (Tryz.prog.info? 77).map (fun i => (i.zero, i.size, i.bytes)) = some (some (.agg #[.int .i64 0, .int .i64 0, .int .i64 0, .int .i64 0, .int .i64 0, .int .i64 0, .int .i64 0, .int .i64 0]), 8, 64) := by kernel_rfl
/-- rows that are 0 -/
def zrs (n : Nat) : Array Value := madeCells #[.int .i64 0, .int .i64 0, .int .i64 0, .int .i64 0, .int .i64 0, .int .i64 0, .int .i64 0, .int .i64 0] (n * 8)
theorem zrs_get (n : Nat) : ∀ m, m < n → ∀ c, c < 8 → (zrs n)[m * 8 + c]? = some (.int .i64 0) := fun m hm c hc => by
  unfold zrs madeCells
  have h : m * 8 + c < n * 8 := by omega
  have h8 : (m * 8 + c) % 8 = c := by omega
  simp [h, h8]
  rcases lt8 hc with rfl | rfl | rfl | rfl | rfl | rfl | rfl | rfl <;> rfl
theorem make_rows (n : Nat) (hn : n ≤ 1000) (w : World) :
    (Instr.makeSlice 80 (.int .i64 (n : Int)) (.int .i64 (n : Int))).run Tryz.prog w = .ok (.slice (some ⟨w.heap.size, 0, none⟩) n n) (w.alloc (.cells (zrs n) 77)) := by
  obtain ⟨i0, hi, hz0, hz1, hz2⟩ := info_parts Tryz.info59r
  have hb : (i0.bytes : Int) * (n : Int) ≤ 281474976710656 := by rw [hz2]; omega
  have hr := run_make (P := Tryz.prog) w 80 77 i0 _ Tryz.underlying80 hi hz0 .i64 .i64 n n (by omega) (by omega) hb (by omega)
  simp only [Int.toNat_natCast, hz1] at hr
  exact hr
theorem newOk_iff {nm nc : Int} : newOk nm nc = true ↔ 1 ≤ nm ∧ nm ≤ 16 ∧ 1 ≤ nc ∧ nc ≤ 8 := by unfold newOk; simp

set_option maxHeartbeats 2000000 in
theorem new_any (nm nc : Int) (w : World) : Calls Tryz.prog 22 #[.int .i64 nm, .int .i64 nc] w fun e w' =>
    (newOk nm nc = true → ∃ b, e = .returned (.tuple #[.pointer (some ⟨b, 0, none⟩), .int .i64 0]) ∧ PL (fun j => w.heap.size ≤ j) w' b (LM.new nm.toNat nc.toNat)) ∧
    (newOk nm nc = false → e = .returned (.tuple #[.pointer none, .int .i64 1])) ∧ Below w.heap.size w w' := by
  have cm := within_any nm 16 w
  have cc := within_any nc 8 w
  replace cm := Lib.hid cm
  replace cc := Lib.hid cc
  by_cases h1 : 1 ≤ nm ∧ nm ≤ 16
  · have e1 : (decide (1 ≤ nm) && decide (nm ≤ 16)) = true := by simp; omega
    by_cases h2 : 1 ≤ nc ∧ nc ≤ 8
    · have e2 : (decide (1 ≤ nc) && decide (nc ≤ 8)) = true := by simp; omega
      obtain ⟨n, rfl⟩ : ∃ n : Nat, nm = n := ⟨nm.toNat, by omega⟩
      obtain ⟨m, rfl⟩ : ∃ m : Nat, nc = m := ⟨nc.toNat, by omega⟩
      have hmk := fun w => make_rows n (by omega) w
      have hfin : PL (fun j => w.heap.size ≤ j) ((w.alloc (.cells (zrs n) 77)).alloc (.cells (lArr (LM.new n m) w.heap.size n) 82)) (w.heap.size + 1) (LM.new n m) :=
        ⟨w.heap.size, n, heap_alloc2_new w _ _, ⟨_, heap_alloc2_old w _ _, zrs_get n⟩, by show n ≤ 16; omega, by show m ≤ 8; omega, by show w.heap.size ≤ w.heap.size + 1; omega, Nat.le_refl _⟩
      have hbl : Below w.heap.size w ((w.alloc (.cells (zrs n) 77)).alloc (.cells (lArr (LM.new n m) w.heap.size n) 82)) := ((Below.refl _ w).alloc (Nat.le_refl _) _).alloc (by simp) _
      unfold lArr LM.new at hfin hbl
      generalize hz : zrs n = z at *
      rw [e1] at cm
      rw [e2] at cc
      have hok := newOk_iff.2 (⟨h1.1, h1.2, h2.1, h2.2⟩ : 1 ≤ (n : Int) ∧ (n : Int) ≤ 16 ∧ 1 ≤ (m : Int) ∧ (m : Int) ≤ 8)
      replace hok := Lib.hid hok
      replace hfin := Lib.hid hfin
      replace hbl := Lib.hid hbl
      go_enter Tryz.func22, Tryz.ntmps22
      go_wp2_with fail
      with_reducible refine cm.out.mono ?_
      rintro e w1 ⟨rfl, rfl⟩
      go_wp2_with fail
      with_reducible refine cc.out.mono ?_
      rintro e w1 ⟨rfl, rfl⟩
      go_wp2_with fail
      go_ret2
      exact ⟨fun _ => ⟨_, rfl, hfin.out⟩, fun e => absurd e (by rw [hok.out]; decide), hbl.out⟩
    · have e2 : (decide (1 ≤ nc) && decide (nc ≤ 8)) = false := by simp; omega
      have hok : newOk nm nc = false := by unfold newOk; simp; omega
      rw [e1] at cm
      rw [e2] at cc
      replace hok := Lib.hid hok
      go_enter Tryz.func22, Tryz.ntmps22
      go_wp2_with fail
      with_reducible refine cm.out.mono ?_
      rintro e w1 ⟨rfl, rfl⟩
      go_wp2_with fail
      with_reducible refine cc.out.mono ?_
      rintro e w1 ⟨rfl, rfl⟩
      go_wp2_with fail
      go_ret2
      exact ⟨fun e => absurd e (by rw [hok.out]; decide), fun _ => rfl, Below.refl _ _⟩
  · have e1 : (decide (1 ≤ nm) && decide (nm ≤ 16)) = false := by simp; omega
    have hok : newOk nm nc = false := by unfold newOk; simp; omega
    rw [e1] at cm
    replace hok := Lib.hid hok
    go_enter Tryz.func22, Tryz.ntmps22
    go_wp2_with fail
    with_reducible refine cm.out.mono ?_
    rintro e w1 ⟨rfl, rfl⟩
    go_wp2_with fail
    go_ret2
    exact ⟨fun e => absurd e (by rw [hok.out]; decide), fun _ => rfl, Below.refl _ _⟩

/-- a row with so much more of one currency -/
def plusR (f : Nat → Int) (c : Nat) (x : Int) : Nat → Int := if In64 (f c + x) then upd f c (f c + x) else fun _ => 0
theorem fitE_in {x : Int} (h : In64 x) : fitV x = x ∧ fitE x = 0 := by obtain ⟨h1, h2⟩ := fit_yes x h.1 h.2; exact ⟨h1.symm, h2.symm⟩
theorem fitE_out {x : Int} (h : ¬ In64 x) : fitE x = 3 := (fit_no x (by unfold In64 at h; omega)).2.symm
set_option maxHeartbeats 2000000 in
theorem rplus_any (f : Nat → Int) (hf : ∀ c, In64 (f c)) (c : Nat) (hc : c < 8) (x : Int) (hx : In64 x) (w : World) :
    Calls Tryz.prog 39 #[.agg (r8 f), .int .i64 (c : Int), .int .i64 x] w fun e w' => e = .returned (.tuple #[.agg (r8 (plusR f c x)), .int .i64 (fitE (f c + x))]) ∧ Below w.heap.size w w' := by
  have ha := fun w => add_any (f c) x w (hf c).1 (hf c).2 hx.1 hx.2
  have hbv : Below w.heap.size w ((w.alloc (.cells (r8 f) 77)).alloc (.cells (r8 fun _ => 0) 77)) := ((Below.refl _ w).alloc (Nat.le_refl _) _).alloc (by simp) _
  have ho := heap_alloc2_old w (.cells (r8 f) 77) (.cells (r8 fun _ => 0) 77)
  have hr := heap_alloc2_new w (.cells (r8 f) 77) (.cells (r8 fun _ => 0) 77)
  have hcz : (c : Int) < 8 := by omega
  generalize hv : (w.alloc (.cells (r8 f) 77)).alloc (.cells (r8 fun _ => 0) 77) = v at *
  have x0 : v.cell? ⟨w.heap.size, c, none⟩ = some (.int .i64 (f c)) := obj_cell ho (r8_get f hc)
  have hs := obj_lt hr
  by_cases hI : In64 (f c + x)
  · obtain ⟨eV, eE⟩ := fitE_in hI
    have eP : plusR f c x = upd f c (f c + x) := if_pos hI
    rw [eV, eE] at ha
    rw [eE, eP]
    generalize hy : f c + x = y at *
    unfold r8 at hv ⊢
    replace hv := Lib.hid hv
    replace ha := Lib.hid ha
    replace ho := Lib.hid ho
    replace hr := Lib.hid hr
    replace hI := Lib.hid hI
    replace hbv := Lib.hid hbv
    go_enter Tryz.func39, Tryz.ntmps39
    go_upto_region 1 with (fail)
    change Code.wp _ _ _ _ ((w.alloc (.cells #[.int .i64 (f 0), .int .i64 (f 1), .int .i64 (f 2), .int .i64 (f 3), .int .i64 (f 4), .int .i64 (f 5), .int .i64 (f 6), .int .i64 (f 7)] 77)).alloc (.cells #[.int .i64 0, .int .i64 0, .int .i64 0, .int .i64 0, .int .i64 0, .int .i64 0, .int .i64 0, .int .i64 0] 77))
    rw [hv.out]
    go_wp2_with fail
    with_reducible refine (ha.out _).mono ?_
    rintro e w1 ⟨rfl, hb1⟩
    have ho1 := (hb1.block _ (by omega)).trans ho.out
    have hr1 := (hb1.block _ hs).trans hr.out
    have z0 := obj_free ho1 c
    have k0 : w1.cell? ⟨w.heap.size, c, none⟩ = some (.int .i64 (f c)) := obj_cell ho1 (r8_get f hc)
    have hou := obj_set ho1 c (.int .i64 y)
    have hru : (w1.setCell ⟨w.heap.size, c, none⟩ (.int .i64 y)).heap[w.heap.size + 1]? = _ := (obj_other _ (by show w.heap.size + 1 ≠ w.heap.size; omega)).trans hr1
    rw [r8_set f hc] at hou
    have hbu : Below w.heap.size w (w1.setCell ⟨w.heap.size, c, none⟩ (.int .i64 y)) := (hbv.out.trans (hb1.mono (by omega))).setCell (Nat.le_refl _) _
    replace hb1 := Lib.hid hb1
    replace ho1 := Lib.hid ho1
    replace hr1 := Lib.hid hr1
    generalize hu : w1.setCell ⟨w.heap.size, c, none⟩ (.int .i64 y) = u at *
    have y0 : u.cell? ⟨w.heap.size, 0, none⟩ = some (.int .i64 (upd f c y 0)) := obj_cell hou rfl
    have y1 : u.cell? ⟨w.heap.size, 1, none⟩ = some (.int .i64 (upd f c y 1)) := obj_cell hou rfl
    have y2 : u.cell? ⟨w.heap.size, 2, none⟩ = some (.int .i64 (upd f c y 2)) := obj_cell hou rfl
    have y3 : u.cell? ⟨w.heap.size, 3, none⟩ = some (.int .i64 (upd f c y 3)) := obj_cell hou rfl
    have y4 : u.cell? ⟨w.heap.size, 4, none⟩ = some (.int .i64 (upd f c y 4)) := obj_cell hou rfl
    have y5 : u.cell? ⟨w.heap.size, 5, none⟩ = some (.int .i64 (upd f c y 5)) := obj_cell hou rfl
    have y6 : u.cell? ⟨w.heap.size, 6, none⟩ = some (.int .i64 (upd f c y 6)) := obj_cell hou rfl
    have y7 : u.cell? ⟨w.heap.size, 7, none⟩ = some (.int .i64 (upd f c y 7)) := obj_cell hou rfl
    have q0 : u.cell? ⟨w.heap.size + 1, 0, none⟩ = some (.int .i64 0) := obj_cell hru rfl
    have q1 : u.cell? ⟨w.heap.size + 1, 1, none⟩ = some (.int .i64 0) := obj_cell hru rfl
    have q2 : u.cell? ⟨w.heap.size + 1, 2, none⟩ = some (.int .i64 0) := obj_cell hru rfl
    have q3 : u.cell? ⟨w.heap.size + 1, 3, none⟩ = some (.int .i64 0) := obj_cell hru rfl
    have q4 : u.cell? ⟨w.heap.size + 1, 4, none⟩ = some (.int .i64 0) := obj_cell hru rfl
    have q5 : u.cell? ⟨w.heap.size + 1, 5, none⟩ = some (.int .i64 0) := obj_cell hru rfl
    have q6 : u.cell? ⟨w.heap.size + 1, 6, none⟩ = some (.int .i64 0) := obj_cell hru rfl
    have q7 : u.cell? ⟨w.heap.size + 1, 7, none⟩ = some (.int .i64 0) := obj_cell hru rfl
    have z := obj_free hru
    replace hou := Lib.hid hou
    replace hru := Lib.hid hru
    replace hu := Lib.hid hu
    replace hbu := Lib.hid hbu
    go_upto_region 5 with (fail)
    rw [hu.out]
    go_wp2_with fail
    refine bodyPost_ret (v := .tuple #[.agg #[.int .i64 (upd f c y 0), .int .i64 (upd f c y 1), .int .i64 (upd f c y 2), .int .i64 (upd f c y 3), .int .i64 (upd f c y 4), .int .i64 (upd f c y 5), .int .i64 (upd f c y 6), .int .i64 (upd f c y 7)], .int .i64 0]) ?_ rfl ⟨rfl, ?_⟩
    · simp [results, Tryz.results39, go_sem, q0, q1, q2, q3, q4, q5, q6, q7]
    · repeat (refine Below.setCell ?_ (Nat.le_succ _) _)
      exact hbu.out
  · have eE := fitE_out hI
    have eP : plusR f c x = fun _ => 0 := if_neg hI
    rw [eE] at ha
    rw [eE, eP]
    generalize fitV (f c + x) = y at *
    generalize f c + x = y2 at *
    unfold r8 at hv ⊢
    replace hv := Lib.hid hv
    replace ha := Lib.hid ha
    replace ho := Lib.hid ho
    replace hr := Lib.hid hr
    replace hI := Lib.hid hI
    replace hbv := Lib.hid hbv
    go_enter Tryz.func39, Tryz.ntmps39
    go_upto_region 1 with (fail)
    change Code.wp _ _ _ _ ((w.alloc (.cells #[.int .i64 (f 0), .int .i64 (f 1), .int .i64 (f 2), .int .i64 (f 3), .int .i64 (f 4), .int .i64 (f 5), .int .i64 (f 6), .int .i64 (f 7)] 77)).alloc (.cells #[.int .i64 0, .int .i64 0, .int .i64 0, .int .i64 0, .int .i64 0, .int .i64 0, .int .i64 0, .int .i64 0] 77))
    rw [hv.out]
    go_wp2_with fail
    with_reducible refine (ha.out _).mono ?_
    rintro e w1 ⟨rfl, hb1⟩
    have hru := (hb1.block _ hs).trans hr.out
    have q0 : w1.cell? ⟨w.heap.size + 1, 0, none⟩ = some (.int .i64 0) := obj_cell hru rfl
    have q1 : w1.cell? ⟨w.heap.size + 1, 1, none⟩ = some (.int .i64 0) := obj_cell hru rfl
    have q2 : w1.cell? ⟨w.heap.size + 1, 2, none⟩ = some (.int .i64 0) := obj_cell hru rfl
    have q3 : w1.cell? ⟨w.heap.size + 1, 3, none⟩ = some (.int .i64 0) := obj_cell hru rfl
    have q4 : w1.cell? ⟨w.heap.size + 1, 4, none⟩ = some (.int .i64 0) := obj_cell hru rfl
    have q5 : w1.cell? ⟨w.heap.size + 1, 5, none⟩ = some (.int .i64 0) := obj_cell hru rfl
    have q6 : w1.cell? ⟨w.heap.size + 1, 6, none⟩ = some (.int .i64 0) := obj_cell hru rfl
    have q7 : w1.cell? ⟨w.heap.size + 1, 7, none⟩ = some (.int .i64 0) := obj_cell hru rfl
    have z := obj_free hru
    have hbu : Below w.heap.size w w1 := hbv.out.trans (hb1.mono (by omega))
    replace hb1 := Lib.hid hb1
    replace hru := Lib.hid hru
    replace hbu := Lib.hid hbu
    go_wp2_with fail
    refine bodyPost_ret (v := .tuple #[.agg #[.int .i64 0, .int .i64 0, .int .i64 0, .int .i64 0, .int .i64 0, .int .i64 0, .int .i64 0, .int .i64 0], .int .i64 3]) ?_ rfl ⟨rfl, ?_⟩
    · simp [results, Tryz.results39, go_sem, q0, q1, q2, q3, q4, q5, q6, q7]
    · repeat (refine Below.setCell ?_ (Nat.le_succ _) _)
      exact hbu.out
end Go.Proofs.YtiehbbhjpcnbnaaGreat
namespace Go.Proofs.YtiehbbhjpcnbnaaGreat
open Go.RowKit
set_option linter.unusedVariables false

/-- a box of eight amounts -/
def BX (w : World) (p : Nat) (f : Nat → Int) : Prop := w.heap[p]? = some (.cells (r8 f) 77 (0, 0))
theorem BX.cells {w : World} {p : Nat} {f : Nat → Int} (h : BX w p f) : w.cell? ⟨p, 0, none⟩ = some (.int .i64 (f 0)) ∧ w.cell? ⟨p, 1, none⟩ = some (.int .i64 (f 1)) ∧ w.cell? ⟨p, 2, none⟩ = some (.int .i64 (f 2)) ∧ w.cell? ⟨p, 3, none⟩ = some (.int .i64 (f 3)) ∧
    w.cell? ⟨p, 4, none⟩ = some (.int .i64 (f 4)) ∧ w.cell? ⟨p, 5, none⟩ = some (.int .i64 (f 5)) ∧ w.cell? ⟨p, 6, none⟩ = some (.int .i64 (f 6)) ∧ w.cell? ⟨p, 7, none⟩ = some (.int .i64 (f 7)) :=
  ⟨obj_cell h rfl, obj_cell h rfl, obj_cell h rfl, obj_cell h rfl, obj_cell h rfl, obj_cell h rfl, obj_cell h rfl, obj_cell h rfl⟩
theorem BX.at {w w' : World} {p : Nat} {f : Nat → Int} (h : BX w p f) (hb : w'.heap[p]? = w.heap[p]?) : BX w' p f := hb.trans h
theorem BX.made (w : World) (f : Nat → Int) : BX (w.alloc (.cells (r8 f) 77)) w.heap.size f := heap_alloc_new w _
theorem BR.cells {w : World} {g n m : Nat} {B : Nat → Nat → Int} (h : BR w g B n) (hm : m < n) : w.cell? ⟨g, m * 8, none⟩ = some (.int .i64 (B m 0)) ∧ w.cell? ⟨g, m * 8 + 1, none⟩ = some (.int .i64 (B m 1)) ∧ w.cell? ⟨g, m * 8 + 2, none⟩ = some (.int .i64 (B m 2)) ∧ w.cell? ⟨g, m * 8 + 3, none⟩ = some (.int .i64 (B m 3)) ∧
    w.cell? ⟨g, m * 8 + 4, none⟩ = some (.int .i64 (B m 4)) ∧ w.cell? ⟨g, m * 8 + 5, none⟩ = some (.int .i64 (B m 5)) ∧ w.cell? ⟨g, m * 8 + 6, none⟩ = some (.int .i64 (B m 6)) ∧ w.cell? ⟨g, m * 8 + 7, none⟩ = some (.int .i64 (B m 7)) :=
  ⟨h.cell (c := 0) hm (by omega), h.cell (c := 1) hm (by omega), h.cell (c := 2) hm (by omega), h.cell (c := 3) hm (by omega), h.cell (c := 4) hm (by omega), h.cell (c := 5) hm (by omega), h.cell (c := 6) hm (by omega), h.cell (c := 7) hm (by omega)⟩
theorem PLv.ncells {P : Nat → Prop} {w : World} {b gB cB : Nat} {l : LM} (h : PLv P w b l gB cB) : w.cell? ⟨b, 1, none⟩ = some (.int .i64 (l.N 0)) ∧ w.cell? ⟨b, 2, none⟩ = some (.int .i64 (l.N 1)) ∧ w.cell? ⟨b, 3, none⟩ = some (.int .i64 (l.N 2)) ∧ w.cell? ⟨b, 4, none⟩ = some (.int .i64 (l.N 3)) ∧
    w.cell? ⟨b, 5, none⟩ = some (.int .i64 (l.N 4)) ∧ w.cell? ⟨b, 6, none⟩ = some (.int .i64 (l.N 5)) ∧ w.cell? ⟨b, 7, none⟩ = some (.int .i64 (l.N 6)) ∧ w.cell? ⟨b, 8, none⟩ = some (.int .i64 (l.N 7)) :=
  ⟨obj_cell h.obj rfl, obj_cell h.obj rfl, obj_cell h.obj rfl, obj_cell h.obj rfl, obj_cell h.obj rfl, obj_cell h.obj rfl, obj_cell h.obj rfl, obj_cell h.obj rfl⟩
/-- eight amounts stored -/
def st8 (w : World) (p off : Nat) (f : Nat → Int) : World :=
  (((((((w.setCell ⟨p, off, none⟩ (.int .i64 (f 0))).setCell ⟨p, off + 1, none⟩ (.int .i64 (f 1))).setCell ⟨p, off + 2, none⟩ (.int .i64 (f 2))).setCell ⟨p, off + 3, none⟩ (.int .i64 (f 3))).setCell ⟨p, off + 4, none⟩ (.int .i64 (f 4))).setCell ⟨p, off + 5, none⟩ (.int .i64 (f 5))).setCell ⟨p, off + 6, none⟩ (.int .i64 (f 6))).setCell ⟨p, off + 7, none⟩ (.int .i64 (f 7))
theorem st8_other (w : World) {p k : Nat} (off : Nat) (f : Nat → Int) (h : k ≠ p) : (st8 w p off f).heap[k]? = w.heap[k]? := by
  unfold st8
  rw [obj_other _ h, obj_other _ h, obj_other _ h, obj_other _ h, obj_other _ h, obj_other _ h, obj_other _ h, obj_other _ h]
theorem st8_at {w : World} {p : Nat} {cs : Array Value} {T : TypeId} (h : w.heap[p]? = some (.cells cs T (0, 0))) (off : Nat) (f : Nat → Int) : (st8 w p off f).heap[p]? = some (.cells ((((((((cs.setIfInBounds off (.int .i64 (f 0))).setIfInBounds (off + 1) (.int .i64 (f 1))).setIfInBounds (off + 2) (.int .i64 (f 2))).setIfInBounds (off + 3) (.int .i64 (f 3))).setIfInBounds (off + 4) (.int .i64 (f 4))).setIfInBounds (off + 5) (.int .i64 (f 5))).setIfInBounds (off + 6) (.int .i64 (f 6))).setIfInBounds (off + 7) (.int .i64 (f 7))) T (0, 0)) := by
  have h0 := obj_set h off (.int .i64 (f 0))
  have h1 := obj_set h0 (off + 1) (.int .i64 (f 1))
  have h2 := obj_set h1 (off + 2) (.int .i64 (f 2))
  have h3 := obj_set h2 (off + 3) (.int .i64 (f 3))
  have h4 := obj_set h3 (off + 4) (.int .i64 (f 4))
  have h5 := obj_set h4 (off + 5) (.int .i64 (f 5))
  have h6 := obj_set h5 (off + 6) (.int .i64 (f 6))
  have h7 := obj_set h6 (off + 7) (.int .i64 (f 7))
  exact h7
theorem all8 (X g : Nat → Int) : ∀ c, c < 8 → (upd (upd (upd (upd (upd (upd (upd (upd X 0 (g 0)) 1 (g 1)) 2 (g 2)) 3 (g 3)) 4 (g 4)) 5 (g 5)) 6 (g 6)) 7 (g 7)) c = g c := fun c hc => by
  rcases lt8 hc with rfl | rfl | rfl | rfl | rfl | rfl | rfl | rfl <;> rfl
theorem BX.set {w : World} {p : Nat} {f : Nat → Int} (h : BX w p f) (g : Nat → Int) : BX (st8 w p 0 g) p g := by
  have h1 := st8_at h 0 g
  simp only [Nat.zero_add] at h1
  rw [r8_set _ (by omega), r8_set _ (by omega), r8_set _ (by omega), r8_set _ (by omega), r8_set _ (by omega), r8_set _ (by omega), r8_set _ (by omega), r8_set _ (by omega)] at h1
  rw [BX, h1, r8_ext (all8 f g)]
theorem BX.other {w : World} {p q : Nat} {f : Nat → Int} (h : BX w p f) (g : Nat → Int) (hn : p ≠ q) : BX (st8 w q 0 g) p f := h.at (st8_other w _ _ hn)
theorem BR.set {w : World} {g n m : Nat} {B : Nat → Nat → Int} (h : BR w g B n) (hm : m < n) (r : Nat → Int) : BR (st8 w g (m * 8) r) g (updR B m r) n := by
  obtain ⟨cs, h1, h2⟩ := h
  refine ⟨_, st8_at h1 _ _, fun k hk c hc => ?_⟩
  have hz := (Array.getElem?_eq_some_iff.1 (h2 m hm 7 (by omega))).1
  by_cases e : k = m
  · subst e
    rw [updR_same]
    rcases lt8 hc with rfl | rfl | rfl | rfl | rfl | rfl | rfl | rfl <;> simp [Array.getElem?_setIfInBounds] <;> omega
  · rw [updR_other _ _ e, ← h2 k hk c hc]
    have hne : ∀ j, j < 8 → m * 8 + j ≠ k * 8 + c := fun j hj => by omega
    have hne0 : m * 8 ≠ k * 8 + c := hne 0 (by omega)
    rw [Array.getElem?_setIfInBounds_ne (hne 7 (by omega)), Array.getElem?_setIfInBounds_ne (hne 6 (by omega)), Array.getElem?_setIfInBounds_ne (hne 5 (by omega)), Array.getElem?_setIfInBounds_ne (hne 4 (by omega)),
      Array.getElem?_setIfInBounds_ne (hne 3 (by omega)), Array.getElem?_setIfInBounds_ne (hne 2 (by omega)), Array.getElem?_setIfInBounds_ne (hne 1 (by omega)), Array.getElem?_setIfInBounds_ne hne0]
theorem lArr_set {nm nc : Nat} {B : Nat → Nat → Int} {N : Nat → Int} {gB cB : Nat} {x : Int} (c : Nat) (h : c < 8) : (lArr ⟨nm, nc, B, N⟩ gB cB).setIfInBounds (c + 1) (.int .i64 x) = lArr ⟨nm, nc, B, upd N c x⟩ gB cB := by
  rcases lt8 h with rfl | rfl | rfl | rfl | rfl | rfl | rfl | rfl <;> rfl
theorem lArr_ext {nm nc : Nat} {B : Nat → Nat → Int} {N M : Nat → Int} {gB cB : Nat} (h : ∀ c, c < 8 → N c = M c) : lArr ⟨nm, nc, B, N⟩ gB cB = lArr ⟨nm, nc, B, M⟩ gB cB := by
  unfold lArr
  dsimp only
  rw [h 0 (by omega), h 1 (by omega), h 2 (by omega), h 3 (by omega), h 4 (by omega), h 5 (by omega), h 6 (by omega), h 7 (by omega)]
theorem lObj_set {w : World} {b : Nat} {l : LM} {gB cB : Nat} (h : w.heap[b]? = some (.cells (lArr l gB cB) 82 (0, 0))) (g : Nat → Int) : (st8 w b 1 g).heap[b]? = some (.cells (lArr ⟨l.nm, l.nc, l.B, g⟩ gB cB) 82 (0, 0)) := by
  have h1 := st8_at h 1 g
  simp only [Nat.reduceAdd] at h1
  rw [lArr_set 0 (by omega), lArr_set 1 (by omega), lArr_set 2 (by omega), lArr_set 3 (by omega), lArr_set 4 (by omega), lArr_set 5 (by omega), lArr_set 6 (by omega), lArr_set 7 (by omega)] at h1
  rw [h1, lArr_ext (all8 l.N g)]
theorem Kp.st8 {F : Nat → Prop} {a w : World} (h : Kp F a w) {p : Nat} (hp : F p ∨ a.heap.size ≤ p) (off : Nat) (f : Nat → Int) : Kp F a (st8 w p off f) :=
  (((((((h.setCell hp _).setCell hp _).setCell hp _).setCell hp _).setCell hp _).setCell hp _).setCell hp _).setCell hp _
theorem below_st8 {B : Nat} {a w : World} (h : Below B a w) {p : Nat} (hp : B ≤ p) (off : Nat) (f : Nat → Int) : Below B a (st8 w p off f) :=
  (((((((h.setCell hp _).setCell hp _).setCell hp _).setCell hp _).setCell hp _).setCell hp _).setCell hp _).setCell hp _

end Go.Proofs.YtiehbbhjpcnbnaaGreat
