/- What the reference's Div goes through: plain arithmetic, and what lies where.
  What lies where in the reference's Div. -/
import Derived.Test.YthocnlalahknjaaGreatQXd
import Derived.Test.YthocnlalahknjaaGreatQXb
import Derived.Deep.RegionLaw
import Derived.Deep.AppendSrc
namespace Go.Proofs.YthocnlalahknjaaGreat
open Go.RowKit
set_option linter.unusedVariables false

/-- a division, digit by digit from above: k digits are left -/
structure DivInv (f : Nat → Int) (V Vb : Int) (n k : Nat) (qs : List Int) (R : Int) : Prop where
  ex : ∃ H Q : Int, V = dv f k + H * pw k ∧ val qs = Q * pw k ∧ H = Q * Vb + R
  low : ∀ j, j < k → dg qs j = 0
  digs : Digs (dg qs)
  len : qs.length = n
  R0 : 0 ≤ R
  R1 : R < Vb
theorem DivInv.first (f : Nat → Int) (n : Nat) (Vb : Int) (hV : 0 < Vb) : DivInv f (dv f n) Vb n n (List.replicate n 0) 0 := by
  refine ⟨⟨0, 0, by simp, by rw [val_zero]; simp, by simp⟩, fun j _ => ?_, digs_zero n, List.length_replicate, by omega, hV⟩
  unfold dg
  rw [List.getD_eq_getElem?_getD, List.getElem?_replicate]
  split <;> rfl
theorem DivInv.skip {f : Nat → Int} {V Vb : Int} {n j : Nat} {qs : List Int} {R : Int} (h : DivInv f V Vb n (j + 1) qs R) (hf : Digs f) (hlt : 10000 * R + f j < Vb) : DivInv f V Vb n j qs (10000 * R + f j) := by
  obtain ⟨H, Q, h1, h2, h3⟩ := h.ex
  have hd := hf j
  have r0 := h.R0
  refine ⟨⟨10000 * H + f j, 10000 * Q, upper_next h1, ?_, ?_⟩, fun i hi => h.low i (by omega), h.digs, h.len, by omega, hlt⟩
  · rw [h2, pw_succ, Int.mul_left_comm, Int.mul_assoc]
  · rw [h3, Int.mul_add, Int.mul_assoc]; omega
theorem DivInv.digit {f : Nat → Int} {V Vb : Int} {n j : Nat} {qs : List Int} {R : Int} (h : DivInv f V Vb n (j + 1) qs R) (hf : Digs f) (hj : j < n) (d : Int) (h0 : 0 ≤ d) (hlo : d * Vb ≤ 10000 * R + f j) (hup : 10000 * R + f j < d * Vb + Vb) :
    DivInv f V Vb n j (qs.set j d) (10000 * R + f j - d * Vb) ∧ d ≤ 9999 := by
  obtain ⟨H, Q, h1, h2, h3⟩ := h.ex
  have hd := hf j
  have r0 := h.R0
  have r1 := h.R1
  have d9 : d ≤ 9999 := by
    apply Int.not_lt.1
    intro hgt
    have : 10000 * Vb ≤ d * Vb := Int.mul_le_mul_of_nonneg_right (by omega) (by omega)
    omega
  refine ⟨⟨⟨10000 * H + f j, 10000 * Q + d, upper_next h1, ?_, ?_⟩, fun i hi => ?_, digs_set h.digs h0 d9, by rw [List.length_set]; exact h.len, by omega, by omega⟩, d9⟩
  · rw [val_set (by rw [h.len]; exact hj), h.low j (by omega), h2, pw_succ, Int.add_mul, Int.mul_left_comm, Int.mul_assoc, Int.sub_zero]
  · rw [h3, Int.mul_add, Int.add_mul, Int.mul_assoc]; omega
  · rw [dg_set_ne (by omega)]; exact h.low i (by omega)
theorem DivInv.last {f : Nat → Int} {V Vb : Int} {n : Nat} {qs : List Int} {R : Int} (h : DivInv f V Vb n 0 qs R) : V = val qs * Vb + R := by
  obtain ⟨H, Q, h1, h2, h3⟩ := h.ex
  rw [h1, h2, h3]
  simp [dv, pw]

theorem div_ofR {N Y q r : Int} (hr : 0 ≤ r) (hr' : r < Y) (h : q * Y + r = N) : N / Y = q := by
  have hY : Y ≠ 0 := by omega
  rw [← h, Int.add_comm, Int.add_mul_ediv_right _ _ hY, Int.ediv_eq_zero_of_lt hr hr', Int.zero_add]
/-- the whole number about a quotient, down or up -/
def divR (N V : Int) (up : Bool) : Int := if up then -(-N / V) else N / V
theorem divR_of {na : Bool} {V Vb Q R : Int} (e : V = Q * Vb + R) (r0 : 0 ≤ R) (r1 : R < Vb) (up : Bool) :
    divR (sgB na V) Vb up = sgB na Q + (if 0 < R ∧ na = false ∧ up = true then 1 else if 0 < R ∧ na = true ∧ up = false then -1 else 0) := by
  have e1 : V / Vb = Q := div_ofR r0 r1 e.symm
  have e2 : 0 < R → -V / Vb = -Q - 1 := fun hr => div_ofR (r := Vb - R) (by omega) (by omega) (by rw [Int.sub_mul, Int.neg_mul, Int.one_mul]; omega)
  have e3 : R = 0 → -V / Vb = -Q := fun hr => div_ofR (r := 0) (by omega) (by omega) (by rw [Int.neg_mul]; omega)
  unfold divR sgB
  by_cases hr : 0 < R
  · cases na <;> cases up <;> simp [hr, e1, e2 hr] <;> omega
  · have hz : R = 0 := by omega
    cases na <;> cases up <;> simp [hz, e1, e3 hz]

theorem pw_len {ds : List Int} (hd : Digs (dg ds)) (hz : 0 < ds.length → dg ds (ds.length - 1) ≠ 0) {m : Nat} (h : val ds < pw m) : ds.length ≤ m := by
  apply Nat.le_of_not_lt
  intro hl
  exact hz (by omega) (dv_zero hd (m := m) (n := ds.length) h (ds.length - 1) (by omega) (by omega))
end Go.Proofs.YthocnlalahknjaaGreat
namespace Go.Proofs.YthocnlalahknjaaGreat
open Go.RowKit
set_option linter.unusedVariables false

/-- an append, as one step of a region that draws, whose run is known -/
theorem step_app {P : Program} {ops : Array Oper} {o : Oper} {a : Act} {w : World} {K : Act → World → Prop} {Q : Exit → Act → World → Prop} {E : Prop}
    (hg : o.guard = none) (s x : Operand) (t t' : TypeId) (hop : o.op = Op.call { callee := Callee.builtin Builtin.append, args := #[s, x], argTypes := #[t, t'] })
    (v y v' : Value) (w' : World) (hs : a.eval s = v) (hx : a.eval x = y) (hr : (Builtin.append_ #[t, t'] o.type #[v, y]).run P w = .ok v' w') (hK : K (a.put o.dst v') w') :
    if Region.wanted o (yielded ops a.tmps) = true then Oper.wp P o a w K Q else E := by
  have hw : Region.wanted o (yielded ops a.tmps) = true := by simp [Region.wanted, hg]
  rw [if_pos hw]
  unfold Oper.wp
  simp [execOp, hop, resolve, invoke, builtin, hs, hx, hr, Result.andThen]
  exact hK

/-- 'append' of a row of digits behind a new one of one digit -/
theorem append_front (W : World) (x : Int) (p : Option Addr) (len cap : Nat) (ds : List Int) (h0 : 0 ≤ x) (h1 : x ≤ 9999) (hr : DRow W p len ds) (hlen : len ≤ 1000) (hp : p = none → len = 0) :
    ∃ g c w', (Builtin.append_ #[35, 35] 35 #[.slice (some ⟨W.heap.size, 0, none⟩) 1 1, .slice p len cap]).run Tryz.prog (W.alloc (.cells #[.int .i64 x] 3)) = .ok (.slice (some ⟨g, 0, none⟩) (len + 1) c) w' ∧
      DRow w' (some ⟨g, 0, none⟩) (len + 1) (x :: ds) ∧ len + 1 ≤ c ∧ Below W.heap.size W w' ∧ W.heap.size ≤ g := by
  obtain ⟨hl, hd, hc⟩ := hr
  obtain ⟨i0, hi, hz0, hz1, hz2⟩ := info_parts Tryz.info3
  have hdd : Digs (dg (x :: ds)) := by
    intro i
    cases i with
    | zero => exact ⟨h0, h1⟩
    | succ i => exact hd i
  cases p with
  | none =>
    have hz : len = 0 := hp rfl
    subst hz
    obtain rfl : ds = [] := List.eq_nil_of_length_eq_zero hl
    have hsrc := Src.ofNil (P := Tryz.prog) (W.alloc (.cells #[.int .i64 x] 3)) (size := i0.size) Tryz.underlying35 cap
    have hrun := run_append_room_src (W.alloc (.cells #[.int .i64 x] 3)) 35 35 35 3 i0 Tryz.underlying35 hi W.heap.size 0 1 1 (.slice none 0 cap) 0 [] hsrc (by omega) (by simp) (by simp)
    refine ⟨W.heap.size, 1, _, hrun, ⟨rfl, hdd, .inr ⟨W.heap.size, 0, rfl, ?_, ?_⟩⟩, by omega, ?_, Nat.le_refl _⟩
    · simp only [World.setCells]
      exact ⟨_, _, heap_alloc_new W _⟩
    · intro i h
      obtain rfl : i = 0 := by omega
      simp [World.setCells]
      rfl
    · simp only [World.setCells]
      exact (Below.refl _ _).alloc (Nat.le_refl _) _
  | some ad =>
    have hown : (W.alloc (.cells #[.int .i64 x] 3)).ownsRow W.heap.size 3 1 (.slice (some ⟨W.heap.size, 0, none⟩) 1 1) 1 [.int .i64 x] :=
      ⟨rfl, .inr ⟨W.heap.size, 1, #[.int .i64 x], rfl, Nat.le_refl _, heap_alloc_new W _, by omega, by unfold maxLen; omega, rfl, rfl⟩⟩
    obtain ⟨v', w', hrun, hown', hgrow, hnil⟩ := run_append_own (P := Tryz.prog) (W.alloc (.cells #[.int .i64 x] 3)) W.heap.size 35 35 3 i0 (.int .i64 0) 1 8 Tryz.underlying35 hi hz0 hz1 hz2 rfl (by decide)
      (.slice (some ⟨W.heap.size, 0, none⟩) 1 1) 1 [.int .i64 x] hown ad len cap (ds.map (.int .i64)) (by simp [hl]) (by
        intro j u hu
        rw [List.getElem?_map] at hu
        obtain ⟨z, hz', rfl⟩ := Option.map_eq_some_iff.1 hu
        have hj : j < ds.length := (List.getElem?_eq_some_iff.1 hz').1
        obtain ⟨b, off, e, hlt, hcell⟩ := hc.resolve_left (by omega)
        simp only [Option.some.injEq] at e
        subst e
        have ha : (⟨b, off, none⟩ : Addr).add j = ⟨b, off + j, none⟩ := by unfold Addr.add; split <;> simp_all
        rw [ha]
        have h1 := hcell j (by omega)
        unfold dg at h1
        rw [List.getD_eq_getElem?_getD, hz'] at h1
        have h2 : Below W.heap.size W (W.alloc (.cells #[.int .i64 x] 3)) := (Below.refl _ _).alloc (Nat.le_refl _) _
        exact (h2.cell (p := ⟨b, off + j, none⟩) hlt.lt).trans h1) (by
        intro u hu
        obtain ⟨z, _, rfl⟩ := List.mem_map.1 hu
        rfl) (by unfold maxLen; omega) (by omega) (by simp)
    have hmap : [Value.int .i64 x] ++ ds.map (.int .i64) = (x :: ds).map (Value.int .i64) := rfl
    rw [hmap] at hown'
    rcases hown'.2 with ⟨_, hx0⟩ | ⟨g, cap', cur, e, hg, hh, hn, hcm, hcs, htake⟩
    · omega
    · subst e
      rw [Nat.add_comm 1 len] at hrun hown' hn
      obtain ⟨p', c', e', hlc, _, hrow, hbase⟩ := own_drow (w := w') (ds := x :: ds) hown' hdd
      simp at e'
      obtain ⟨rfl, rfl⟩ := e'
      refine ⟨g, cap', w', hrun, hrow, hn, ?_, hg⟩
      refine ((Below.refl _ _).alloc (Nat.le_refl _) _).grown hgrow (by simp) (fun k hk => ?_)
      simp [Value.ownBlock] at hk
      omega

/-- what a division's call holds -/
structure DivSt (w W : World) (na : Bool) (pa pb : Option Addr) (la lb ca cb : Nat) (da db : List Int) (o g : Nat) (qs : List Int) (L : Nat) (R : Int) (nr : Bool) (pr : Option Addr) (lr cr : Nat) : Prop where
  hold : Hold w W na false pa pb la lb ca cb da db
  res : Box W (w.heap.size + 1 + 1)
  rbox : Box W (w.heap.size + 1 + 1 + 1)
  r0 : W.cell? ⟨w.heap.size + 1 + 1 + 1, 0, none⟩ = some (.bool nr)
  r1 : W.cell? ⟨w.heap.size + 1 + 1 + 1, 1, none⟩ = some (.slice pr lr cr)
  rB : IsB W (.agg #[.bool nr, .slice pr lr cr]) L R
  rne : ∀ b off, pr = some ⟨b, off, none⟩ → b ≠ g
  q0 : W.cell? ⟨o, 0, none⟩ = some (.bool na)
  q1 : W.cell? ⟨o, 1, none⟩ = some (.slice (some ⟨g, 0, none⟩) qs.length qs.length)
  qbox : Box W o
  row : ORow W g qs
  o3 : w.heap.size + 1 + 1 + 1 < o
  g3 : w.heap.size + 1 + 1 + 1 < g
  ne : o ≠ g
section
variable {w W W' : World} {na : Bool} {pa pb : Option Addr} {la lb ca cb : Nat} {da db : List Int} {o g : Nat} {qs : List Int} {L : Nat} {R : Int} {nr : Bool} {pr : Option Addr} {lr cr : Nat}
theorem DivSt.kept (h : DivSt w W na pa pb la lb ca cb da db o g qs L R nr pr lr cr) (hb : Below W.heap.size W W') : DivSt w W' na pa pb la lb ca cb da db o g qs L R nr pr lr cr :=
  ⟨h.hold.kept hb, h.res.stays hb, h.rbox.stays hb, (hb.cell (p := ⟨w.heap.size + 1 + 1 + 1, 0, none⟩) h.rbox.lt).trans h.r0, (hb.cell (p := ⟨w.heap.size + 1 + 1 + 1, 1, none⟩) h.rbox.lt).trans h.r1, h.rB.kept hb, h.rne,
    (hb.cell (p := ⟨o, 0, none⟩) h.qbox.lt).trans h.q0, (hb.cell (p := ⟨o, 1, none⟩) h.qbox.lt).trans h.q1, h.qbox.stays hb, h.row.kept hb, h.o3, h.g3, h.ne⟩
theorem DivSt.drew (h : DivSt w W na pa pb la lb ca cb da db o g qs L R nr pr lr cr) : DivSt w W.drew na pa pb la lb ca cb da db o g qs L R nr pr lr cr :=
  ⟨h.hold.drew, h.res, h.rbox, h.r0, h.r1, h.rB, h.rne, h.q0, h.q1, h.qbox, h.row, h.o3, h.g3, h.ne⟩
theorem IsB.avoid {v : Value} {b : Nat} {L : Nat} {N : Int} {n : Bool} {p : Option Addr} {l c : Nat} (h : IsB W (.agg #[.bool n, .slice p l c]) L N) (hne : ∀ b' off, p = some ⟨b', off, none⟩ → b' ≠ b) (i : Nat) (u : Value) : IsB (W.setCell ⟨b, i, none⟩ u) (.agg #[.bool n, .slice p l c]) L N := by
  obtain ⟨neg, p', len, cap, ds, h1, h2, h3⟩ := h
  simp at h1
  obtain ⟨rfl, rfl, rfl, rfl⟩ := h1
  exact ⟨n, p, l, c, ds, rfl, drow_store h2 hne u, h3⟩
/-- a digit of the quotient is set -/
theorem DivSt.set (h : DivSt w W na pa pb la lb ca cb da db o g qs L R nr pr lr cr) (i : Nat) (d : Int) : DivSt w (W.setCell ⟨g, i, none⟩ (.int .i64 d)) na pa pb la lb ca cb da db o g (qs.set i d) L R nr pr lr cr := by
  have h2 := h.g3
  have h3 := h.ne
  have hb : Below (w.heap.size + 1 + 1 + 1 + 1) W (W.setCell ⟨g, i, none⟩ (.int .i64 d)) := (Below.refl _ _).setCell (by simp; omega) _
  have e0 := World.cell?_of_block (w := W) (w' := W.setCell ⟨g, i, none⟩ (.int .i64 d)) (a := ⟨o, 0, none⟩) (Below.heap_setCell W ⟨g, i, none⟩ (.int .i64 d) o h3)
  have e1 := World.cell?_of_block (w := W) (w' := W.setCell ⟨g, i, none⟩ (.int .i64 d)) (a := ⟨o, 1, none⟩) (Below.heap_setCell W ⟨g, i, none⟩ (.int .i64 d) o h3)
  exact ⟨h.hold.keptTo hb (by omega), h.res.kept hb (by omega), h.rbox.kept hb (by omega), (hb.cell (p := ⟨w.heap.size + 1 + 1 + 1, 0, none⟩) (by simp)).trans h.r0, (hb.cell (p := ⟨w.heap.size + 1 + 1 + 1, 1, none⟩) (by simp)).trans h.r1,
    h.rB.avoid (v := .bool na) h.rne i _, h.rne, e0.trans h.q0, by rw [List.length_set]; exact e1.trans h.q1, h.qbox.other h3 _, h.row.set d, h.o3, h.g3, h.ne⟩
/-- what is left is put -/
theorem DivSt.put (h : DivSt w W na pa pb la lb ca cb da db o g qs L R nr pr lr cr) {L' : Nat} {R' : Int} {n' : Bool} {p' : Option Addr} {l' c' : Nat} (hB : IsB W (.agg #[.bool n', .slice p' l' c']) L' R') (hne : ∀ b off, p' = some ⟨b, off, none⟩ → b ≠ g) :
    DivSt w ((W.setCell ⟨w.heap.size + 1 + 1 + 1, 0, none⟩ (.bool n')).setCell ⟨w.heap.size + 1 + 1 + 1, 1, none⟩ (.slice p' l' c')) na pa pb la lb ca cb da db o g qs L' R' n' p' l' c' := by
  have h1 := h.o3
  have h2 := h.g3
  have hA := Acc.put (b := w.heap.size + 1 + 1 + 1) (r := w.heap.size + 1 + 1) h.rbox h.res (by omega) hB
  have hb : Below (w.heap.size + 1 + 1 + 1) W ((W.setCell ⟨w.heap.size + 1 + 1 + 1, 0, none⟩ (.bool n')).setCell ⟨w.heap.size + 1 + 1 + 1, 1, none⟩ (.slice p' l' c')) := ((Below.refl _ _).setCell (by simp) _).setCell (by simp) _
  have eo := (Below.heap_setCell (W.setCell ⟨w.heap.size + 1 + 1 + 1, 0, none⟩ (.bool n')) ⟨w.heap.size + 1 + 1 + 1, 1, none⟩ (.slice p' l' c') o (by simp; omega)).trans (Below.heap_setCell W ⟨w.heap.size + 1 + 1 + 1, 0, none⟩ (.bool n') o (by simp; omega))
  exact ⟨h.hold.keptTo hb (by omega), hA.res, hA.box, hA.c0, hA.c1, hA.isB, hne, (World.cell?_of_block (w := W) (a := ⟨o, 0, none⟩) eo).trans h.q0, (World.cell?_of_block (w := W) (a := ⟨o, 1, none⟩) eo).trans h.q1,
    (h.qbox.other (by simp; omega) _).other (by simp; omega) _, (h.row.other (by simp; omega) _).other (by simp; omega) _, h.o3, h.g3, h.ne⟩
end
/-- a number that is not below 0, told by its digits -/
theorem IsB.digits {W : World} {n : Bool} {p : Option Addr} {l c L : Nat} {N : Int} (h : IsB W (.agg #[.bool n, .slice p l c]) L N) (hN : 0 ≤ N) :
    ∃ ds, DRow W p l ds ∧ l ≤ L ∧ val ds = N ∧ l ≤ c ∧ (p = none → c = 0) ∧ (0 < l → dg ds (l - 1) ≠ 0) := by
  obtain ⟨neg, p', len, cap, ds, h1, h2, h3, h4, h5, h6, h7, h8⟩ := h
  simp at h1
  obtain ⟨rfl, rfl, rfl, rfl⟩ := h1
  refine ⟨ds, h2, h5, ?_, h3, h4, h8⟩
  have hv := (val_bd h2.2.1).1
  rw [← h6] at hN ⊢
  unfold sgB at *
  cases n
  · rfl
  · simp at hN ⊢; omega
theorem IsB.short {W : World} {n : Bool} {p : Option Addr} {l c L : Nat} {N : Int} (h : IsB W (.agg #[.bool n, .slice p l c]) L N) (h0 : 0 ≤ N) {m : Nat} (hm : N < pw m) : IsB W (.agg #[.bool n, .slice p l c]) m N := by
  obtain ⟨ds', hr', _, hv', _, _, hz'⟩ := h.digits h0
  obtain ⟨neg, p', len, cap, ds, h1, h2, h3, h4, h5, h6, h7, h8⟩ := h
  simp at h1
  obtain ⟨rfl, rfl, rfl, rfl⟩ := h1
  refine ⟨n, p, l, c, ds, rfl, h2, h3, h4, ?_, h6, h7, h8⟩
  have := pw_len hr'.2.1 (by rw [hr'.1]; exact hz') (m := m) (by rw [hv']; exact hm)
  rw [hr'.1] at this
  exact this
end Go.Proofs.YthocnlalahknjaaGreat
