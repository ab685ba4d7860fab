/- The contract of the reference's Open. -/
import Derived.Test.YtidofjjghbhaaaaJR2
import Derived.Deep.RegionLaw
namespace Go.Proofs.Ytidofjjghbhaaaa
open Go.RowKit
set_option linter.unusedVariables false

/-- the number ahead of the k-th record -/
def prevAt (l : List (List UInt8)) (k : Nat) : Option Nat := if k = 0 then none else num8 (l.getD (k - 1) [])
/-- what has been told of the first k records -/
def ToldTo (base : Nat) (l : List (List UInt8)) (acc : List (List UInt8)) (k : Nat) : Prop :=
  walkR base none l = (walkR base (prevAt l k) (l.drop k)).map (acc ++ ·) ∧ (k ≠ 0 → (num8 (l.getD (k - 1) [])).isSome = true)
theorem ToldTo.start (base : Nat) (l : List (List UInt8)) : ToldTo base l [] 0 := by
  refine ⟨?_, fun h => absurd rfl h⟩
  show walkR base none l = (walkR base none l).map _
  cases walkR base none l <;> simp
theorem drop_getD (l : List (List UInt8)) (k : Nat) (h : k < l.length) : l.drop k = l.getD k [] :: l.drop (k + 1) := by
  rw [List.drop_eq_getElem_cons h, List.getD_eq_getElem?_getD, List.getElem?_eq_getElem h]; rfl
theorem ToldTo.bad {base : Nat} {l acc : List (List UInt8)} {k : Nat} (h : ToldTo base l acc k) (hk : k < l.length) (hb : num8 (l.getD k []) = none ∨ ∃ n, num8 (l.getD k []) = some n ∧ (n < 1 ∨ wrongNext base (prevAt l k) n)) : walkR base none l = none := by
  rw [h.1, drop_getD l k hk, walkR]
  rcases hb with e | ⟨n, e, hw⟩
  · rw [e]; rfl
  · rw [e]; simp only; rw [if_pos hw]; rfl
theorem ToldTo.next {base n : Nat} {l acc : List (List UInt8)} {k : Nat} (h : ToldTo base l acc k) (hk : k < l.length) (e : num8 (l.getD k []) = some n) (hw : ¬ (n < 1 ∨ wrongNext base (prevAt l k) n)) :
    ToldTo base l (acc ++ (if base < n then [(l.getD k []).drop 8] else [])) (k + 1) := by
  have hp : prevAt l (k + 1) = some n := by unfold prevAt; rw [if_neg (by omega)]; exact e
  refine ⟨?_, fun _ => by show (num8 (l.getD k [])).isSome = true; rw [e]; rfl⟩
  rw [h.1, drop_getD l k hk, walkR, e]
  simp only
  rw [if_neg hw, hp]
  cases walkR base (some n) (l.drop (k + 1)) with
  | none => rfl
  | some r =>
    simp only [Option.map_some]
    by_cases hb : base < n
    · rw [if_pos hb, if_pos hb]; simp
    · rw [if_neg hb, if_neg hb]; simp
theorem ToldTo.done {base : Nat} {l acc : List (List UInt8)} {k : Nat} (h : ToldTo base l acc k) (hk : l.length ≤ k) : walkR base none l = some acc := by
  rw [h.1, List.drop_eq_nil_of_le hk]; simp [walkR]

/-- the journal's five cells -/
def jArr (db : Nat) (text : List UInt8) (base : Nat) (v : Value) : Array Value := #[.pointer (some ⟨db, 0, none⟩), sv text, .int .i64 (base : Nat), v, .bool false]

theorem num8_lt {l : List UInt8} {n : Nat} (h : num8 l = some n) : n < 4611686018427387904 ∧ 8 ≤ l.length := by
  unfold num8 at h
  by_cases h8 : l.length < 8
  · rw [if_pos h8] at h; cases h
  · rw [if_neg h8] at h
    by_cases hv : valOf (l.take 8) < 4611686018427387904
    · rw [if_pos hv] at h; injection h with h; omega
    · rw [if_neg hv] at h; cases h

theorem snapOf_of (b : List UInt8) (h : b ≠ []) : snapOf b = if (scan b).1.length = 1 ∧ (scan b).2.2 = 0 then (num8 ((scan b).1.getD 0 [])).map (fun n => (n, ((scan b).1.getD 0 []).drop 8)) else none := by
  unfold snapOf
  rw [if_neg h]
  rcases scan b with ⟨l, e, c⟩
  match l, c with
  | [], c => simp
  | [r], 0 => simp
  | [r], c + 1 => simp
  | a :: b :: l, c => simp

theorem scan_few : ∀ (n : Nat) (l : List UInt8), l.length ≤ n → (scan l).1.length ≤ l.length
  | 0, l, h => by
    have : l = [] := List.eq_nil_of_length_eq_zero (by omega)
    subst this
    simp [scan_nil]
  | n + 1, l, h => by
    cases hs : stop l with
    | some c => rw [scan_stop hs]; simp
    | none =>
      have h8 := (stop_none hs).1
      rw [scan_more hs]
      have := scan_few n (l.drop (8 + num l)) (by simp; omega)
      simp only [List.length_cons, List.length_drop] at *
      omega
theorem snapOf_lt {b : List UInt8} {s : Nat × List UInt8} (h : snapOf b = some s) : s.1 < 4611686018427387904 := by
  by_cases hb : b = []
  · unfold snapOf at h; rw [if_pos hb] at h; injection h with h; subst h; decide
  · rw [snapOf_of b hb] at h
    by_cases hc : (scan b).1.length = 1 ∧ (scan b).2.2 = 0
    · rw [if_pos hc] at h
      cases hn : num8 ((scan b).1.getD 0 []) with
      | none => rw [hn] at h; cases h
      | some n => rw [hn] at h; injection h with h; subst h; exact (num8_lt hn).1
    · rw [if_neg hc] at h; cases h

theorem Own.set {B : Nat} {w : World} {v : Value} {ls : List (List UInt8)} (h : Own B w v ls) {a : Addr} (ha : a.block < B) (x : Value) : Own B (w.setCell a x) v ls := by
  obtain ⟨hlen, h⟩ := h
  refine ⟨hlen, h.imp id ?_⟩
  rintro ⟨g, cap, cur, rfl, hg, hh, r⟩
  exact ⟨g, cap, cur, rfl, hg, (obj_other x (by omega)).trans hh, r⟩

theorem step_appJ {P : Program} {ops : Array Oper} {o : Oper} {a : Act} {w : World} {K : Act → World → Prop} {Q : Exit → Act → World → Prop} {E : Prop}
    (hg : o.guard = none) (s x : Operand) (t t' : TypeId) (hop : o.op = Op.call { callee := Callee.builtin Builtin.append, args := #[s, x], argTypes := #[t, t'] })
    (v y v' : Value) (w' : World) (hs : a.eval s = v) (hx : a.eval x = y) (hr : (Builtin.append_ #[t, t'] o.type #[v, y]).run P w = .ok v' w') (hK : K (a.put o.dst v') w') :
    if Region.wanted o (yielded ops a.tmps) = true then Oper.wp P o a w K Q else E := by
  have hw : Region.wanted o (yielded ops a.tmps) = true := by simp [Region.wanted, hg]
  rw [if_pos hw]
  unfold Oper.wp
  simp [execOp, hop, resolve, invoke, builtin, hs, hx, hr, Result.andThen]
  exact hK

/-- what the loop of opening holds -/
structure LSt (w1 wr : World) (jb db base : Nat) (text : List UInt8) (L acc : List (List UInt8)) (k : Nat) (va : Value) : Prop where
  told : ToldTo base L acc k
  obj : wr.heap[jb]? = some (.cells (jArr db text base va) 86 (0, 0))
  own : Own w1.heap.size wr va acc
  kp : Kp (· = jb) w1 wr
  few : acc.length ≤ k

theorem okCutJ {m : DM} (ok : m.Ok) (f n : Nat) : (cutJ m f n).2.Ok := by
  unfold cutJ
  by_cases h : (m.B f).length = n
  · rw [if_pos h]; exact ok
  · rw [if_neg h]; exact ok.cut _ _
/-- what opening answers -/
def OpenPost (P : Nat → Prop) (w : World) (db : Nat) (r : Int × DM × Option JM) (e : Ending) (w' : World) : Prop :=
  Kp P w w' ∧ match r.2.2 with
    | none => e = .returned (.tuple #[.pointer none, .int .i64 r.1]) ∧ IsR w' db r.2.1
    | some j => ∃ jb, e = .returned (.tuple #[.pointer (some ⟨jb, 0, none⟩), .int .i64 r.1]) ∧ w.heap.size ≤ jb ∧ RJ P w' jb db r.2.1 j


set_option maxHeartbeats 4000000 in
set_option maxRecDepth 100000 in
theorem openR_any (P : Nat → Prop) (db : Nat) (m : DM) (w : World) (h : IsR w db m) (ok : m.Ok) (hP : ∀ i, w.heap.size ≤ i → P i) (hd : P db) :
    Calls Try.prog 16 #[.pointer (some ⟨db, 0, none⟩)] w (OpenPost P w db (openJ m)) := by
  have hdl := obj_lt h
  have hb89 : ∀ w, (Instr.build 86 #[(0, Value.pointer (some ⟨db, 0, none⟩))]).run Try.prog w = .ok (.agg #[.pointer (some ⟨db, 0, none⟩), .string ⟨#[]⟩, .int .i64 0, .slice none 0 0, .bool false]) w := fun w => by kernel_rfl
  have hK1 : Below w.heap.size w (w.alloc (.cells (jArr db [] 0 (.slice none 0 0)) 86)) := (Below.refl _ _).alloc (Nat.le_refl _) _
  have hj1 : (w.alloc (.cells (jArr db [] 0 (.slice none 0 0)) 86)).heap[w.heap.size]? = some (.cells (jArr db [] 0 (.slice none 0 0)) 86 (0, 0)) := heap_alloc_new w _
  have hR1 := h.kept (Kp.of_below (F := fun _ => False) hK1) (fun h => h)
  have t1 := hR1.text (k := 1) (by omega)
  unfold sv at t1
  replace h := Lib.hid h
  generalize hv : w.alloc (.cells (jArr db [] 0 (.slice none 0 0)) 86) = v at *
  generalize hjb : w.heap.size = jb at *
  replace hv := Lib.hid hv
  replace hjb := Lib.hid hjb
  have hjl := obj_lt hj1
  replace hK1 := Lib.hid hK1
  replace hj1 := Lib.hid hj1
  replace hR1 := Lib.hid hR1
  have hs1 : (⟨(m.B 1).toArray⟩ : ByteArray).size ≤ 16777216 := by rw [sz, bl_mk]; exact ok.small (by omega)
  have hb1 : bl (⟨(m.B 1).toArray⟩ : ByteArray) = m.B 1 := bl_mk _
  generalize (⟨(m.B 1).toArray⟩ : ByteArray) = T1 at *
  replace hb1 := Lib.hid hb1
  go_enter Try.func16, Try.ntmps16
  go_upto_region 2 with (fail)
  change Code.wp _ _ _ _ (w.alloc (.cells (jArr db [] 0 (.slice none 0 0)) 86))
  rw [hv.out, hjb.out]
  go_upto_if 22 with (fail)
  generalize hq : (!T1.toList.isEmpty) = q
  go_cut [] (fun wc => ∃ s, snapOf (m.B 1) = some s ∧ wc.heap[jb]? = some (.cells (jArr db s.2 s.1 (.slice none 0 0)) 86 (0, 0)) ∧ Below jb w wc)
  case first =>
    by_cases he : m.B 1 = []
    · obtain rfl : q = false := by
        rw [← hq, ByteArray.toList_eq]
        have : T1.data.toList = m.B 1 := hb1.out
        rw [this, he]; rfl
      replace he := Lib.hid he
      clear hq
      go_wp2_with fail
      go_meet
      case rel => exact ⟨(0, []), by rw [he.out]; rfl, hj1.out, hK1.out⟩
    · obtain rfl : q = true := by
        rw [← hq, ByteArray.toList_eq]
        have : T1.data.toList = m.B 1 := hb1.out
        rw [this]
        cases hm : m.B 1 with
        | nil => exact absurd hm he
        | cons a b => rfl
      clear hq
      have hsn := snapOf_of _ he
      have cS := scanR_any T1 v hs1
      rw [hb1.out] at cS
      generalize scan (m.B 1) = r at *
      obtain ⟨l, en, bh⟩ := r
      simp only at cS hsn
      have hbad : snapOf (m.B 1) = none → openJ m = (8, m, none) := fun e => by unfold openJ; rw [e]
      replace cS := Lib.hid cS
      replace hsn := Lib.hid hsn
      replace hbad := Lib.hid hbad
      replace he := Lib.hid he
      by_cases h1 : l.length = 1
      · by_cases h2 : bh = 0
        · have hnn := fun w => numberR_any (⟨(l.getD 0 []).toArray⟩ : ByteArray) w
          rw [bl_mk] at hnn
          rw [if_pos ⟨h1, h2⟩] at hsn
          have b1 : (((l.length : Nat) : Int) != 1) = false := by simp; omega
          have b2 : (((bh : Nat) : Int) != 0) = false := by simp; omega
          obtain ⟨S, hS⟩ : ∃ S : ByteArray, (⟨(l.getD 0 []).toArray⟩ : ByteArray) = S := ⟨_, rfl⟩
          rw [hS] at hnn
          replace hS := Lib.hid hS
          replace hnn := Lib.hid hnn
          have h1z : 0 < l.length := by omega
          have h1y : (0 : Int) < (l.length : Int) := by omega
          cases hn : num8 (l.getD 0 []) with
          | none =>
            have hni := numI_none hn
            have ho := hbad.out (by rw [hsn.out, hn]; rfl)
            rw [hni] at hnn
            replace hn := Lib.hid hn
            replace hni := Lib.hid hni
            replace ho := Lib.hid ho
            go_wp2_with (first | (go_at_call 47; refine cS.out.mono ?_; rintro e w1 ⟨⟨v1, rfl, hO1⟩, hB1⟩; obtain ⟨p1, cap1, rfl, hrow1⟩ := hO1.row; obtain ⟨g1, g2⟩ := hrow1; obtain ⟨rb, off, rfl, hlt, hc⟩ := g2.resolve_left (by omega); have hrb := hO1.lt rb rfl; have c0 := hc 0 (by omega); rw [Nat.add_zero, hS.out] at c0; clear g2 hc; replace hO1 := Lib.hid hO1; replace hB1 := Lib.hid hB1) | (go_at_call 48; (with_reducible refine (hnn.out _).mono ?_); rintro e w2 ⟨rfl, rfl⟩))
            go_ret2
            have hKB : Below w.heap.size w w1 := hjb.out ▸ hK1.out.trans (hB1.out.mono (by omega))
            rw [ho.out]
            exact ⟨Kp.of_below hKB, rfl, h.out.kept (Kp.of_below (F := fun _ => False) hKB) (fun h => h)⟩
          | some n =>
            have hni := numI_some hn
            rw [hni] at hnn
            obtain ⟨hn1, hn2⟩ := num8_lt hn
            have hs8 : 8 ≤ S.size := by rw [← hS.out, mk_size]; exact hn2
            have hnz : ¬ (n : Int) < 0 := by omega
            replace hn := Lib.hid hn
            replace hni := Lib.hid hni
            go_wp2_with (first | (go_at_call 47; refine cS.out.mono ?_; rintro e w1 ⟨⟨v1, rfl, hO1⟩, hB1⟩; obtain ⟨p1, cap1, rfl, hrow1⟩ := hO1.row; obtain ⟨g1, g2⟩ := hrow1; obtain ⟨rb, off, rfl, hlt, hc⟩ := g2.resolve_left (by omega); have hrb := hO1.lt rb rfl; have c0 := hc 0 (by omega); rw [Nat.add_zero, hS.out] at c0; clear g2 hc; have hjw := (hB1.block jb hjl).trans hj1.out; have hjrb : rb ≠ jb := (by omega); have c1 : w1.cell? ⟨jb, 1, none⟩ = some (.string ⟨#[]⟩) := obj_cell hjw rfl; have c2 : w1.cell? ⟨jb, 2, none⟩ = some (.int .i64 0) := obj_cell hjw rfl; have z2 := obj_free hjw; have c0' : ∀ x, (w1.setCell ⟨jb, 2, none⟩ x).cell? ⟨rb, off, none⟩ = some (.string S) := fun x => (World.cell?_setCell_other _ _ _ _ (fun e => hjrb (congrArg Addr.block e).symm)).trans c0; have c1' : ∀ x, (w1.setCell ⟨jb, 2, none⟩ x).cell? ⟨jb, 1, none⟩ = some (.string ⟨#[]⟩) := fun x => obj_cell (obj_set hjw 2 x) rfl; have z2' : ∀ x i, (w1.setCell ⟨jb, 2, none⟩ x).frozen? ⟨jb, i, none⟩ = false := fun x i => obj_free (obj_set hjw 2 x) i; replace hjw := Lib.hid hjw; replace hO1 := Lib.hid hO1; replace hB1 := Lib.hid hB1) | (go_at_call 48; (with_reducible refine (hnn.out _).mono ?_); rintro e w2 ⟨rfl, rfl⟩))
            go_meet
            case rel =>
              have hse : Value.string (S.extract 8 S.size) = sv ((l.getD 0 []).drop 8) := by
                rw [← sv_bl (S.extract 8 S.size), stop_at, ← hS.out, bl_mk]
              refine ⟨(n, (l.getD 0 []).drop 8), by rw [hsn.out, hn.out]; rfl, ?_, ((hK1.out.trans (hB1.out.mono (by omega))).setCell (Nat.le_refl _) _).setCell (Nat.le_refl _) _⟩
              rw [hse]
              exact obj_set (obj_set hjw.out 2 _) 1 _
        · have b1 : (((l.length : Nat) : Int) != 1) = false := by simp; omega
          have b2 : (((bh : Nat) : Int) != 0) = true := by simpa using h2
          have ho := hbad.out (by rw [hsn.out, if_neg (by omega)])
          replace h1 := Lib.hid h1
          replace h2 := Lib.hid h2
          replace ho := Lib.hid ho
          go_wp2_with (first | (go_at_call 47; refine cS.out.mono ?_; rintro e w1 ⟨⟨v1, rfl, hO1⟩, hB1⟩; obtain ⟨p1, cap1, rfl, hrow1⟩ := hO1.row; replace hO1 := Lib.hid hO1; replace hB1 := Lib.hid hB1; replace hrow1 := Lib.hid hrow1))
          go_ret2
          have hKB : Below w.heap.size w w1 := hjb.out ▸ hK1.out.trans (hB1.out.mono (by omega))
          rw [ho.out]
          exact ⟨Kp.of_below hKB, rfl, h.out.kept (Kp.of_below (F := fun _ => False) hKB) (fun h => h)⟩
      · have b1 : (((l.length : Nat) : Int) != 1) = true := by simp; omega
        have ho := hbad.out (by rw [hsn.out, if_neg (by omega)])
        replace h1 := Lib.hid h1
        replace ho := Lib.hid ho
        go_wp2_with (first | (go_at_call 47; refine cS.out.mono ?_; rintro e w1 ⟨⟨v1, rfl, hO1⟩, hB1⟩; obtain ⟨p1, cap1, rfl, hrow1⟩ := hO1.row; replace hO1 := Lib.hid hO1; replace hB1 := Lib.hid hB1; replace hrow1 := Lib.hid hrow1))
        go_ret2
        have hKB : Below w.heap.size w w1 := hjb.out ▸ hK1.out.trans (hB1.out.mono (by omega))
        rw [ho.out]
        exact ⟨Kp.of_below hKB, rfl, h.out.kept (Kp.of_below (F := fun _ => False) hKB) (fun h => h)⟩
  case rest =>
    obtain ⟨⟨base, text⟩, hsp, hjc, hKc⟩ := hcut
    simp only at hjc hsp
    clear hq
    have hbl := snapOf_lt hsp
    simp only at hbl
    have hKc' : Below w.heap.size w wc := hjb.out ▸ hKc
    have hRc := h.out.kept (Kp.of_below (F := fun _ => False) hKc') (fun h => h)
    have t0 := hRc.text (k := 0) (by omega)
    have hs0 : (⟨(m.B 0).toArray⟩ : ByteArray).size ≤ 16777216 := by rw [sz, bl_mk]; exact ok.small (by omega)
    have hb0 : bl (⟨(m.B 0).toArray⟩ : ByteArray) = m.B 0 := bl_mk _
    have cS := scanR_any (⟨(m.B 0).toArray⟩ : ByteArray) wc hs0
    have hLl : (scan (m.B 0)).1.length ≤ 16777216 := Nat.le_trans (scan_few _ _ (Nat.le_refl _)) (by rw [← hb0, bl_length]; exact hs0)
    have hop : openJ m = if (scan (m.B 0)).2.2 = 2 then (8, m, none) else match walkR base none (scan (m.B 0)).1 with | none => (8, m, none) | some rs => openCut m (scan (m.B 0)).2.1 ⟨text, base, rs, false⟩ := by unfold openJ; rw [hsp]; rfl
    unfold sv at t0
    rw [hb0] at cS
    generalize (⟨(m.B 0).toArray⟩ : ByteArray) = T0 at *
    generalize scan (m.B 0) = r at *
    obtain ⟨L, en, bh⟩ := r
    simp only at cS hop hLl
    have hjcl := obj_lt hjc
    replace hop := Lib.hid hop
    replace cS := Lib.hid cS
    replace hRc := Lib.hid hRc
    replace hKc := Lib.hid hKc
    replace hKc' := Lib.hid hKc'
    replace hsp := Lib.hid hsp
    replace hjc := Lib.hid hjc
    replace hb0 := Lib.hid hb0
    clear t1 hj1 hK1 hR1 hv hjl hs1 hb89 hs0
    by_cases b2 : bh = 2
    · have e2 : (((bh : Nat) : Int) == 2) = true := by simp; omega
      have ho : openJ m = (8, m, none) := by rw [hop.out, if_pos b2]
      replace ho := Lib.hid ho
      replace b2 := Lib.hid b2
      go_wp2_with (first | (go_at_call 47; refine cS.out.mono ?_; rintro e w1 ⟨⟨v1, rfl, hO1⟩, hB1⟩; obtain ⟨p1, cap1, rfl, hrow1⟩ := hO1.row; replace hO1 := Lib.hid hO1; replace hB1 := Lib.hid hB1; replace hrow1 := Lib.hid hrow1))
      go_ret2
      have hKB : Below w.heap.size w w1 := hKc'.out.trans (hB1.out.mono (by have := hKc'.out.size; omega))
      rw [ho.out]
      exact ⟨Kp.of_below hKB, rfl, h.out.kept (Kp.of_below (F := fun _ => False) hKB) (fun h => h)⟩
    · have e2 : (((bh : Nat) : Int) == 2) = false := by simp; omega
      rw [if_neg b2] at hop
      replace b2 := Lib.hid b2
      go_wp2_with (first | (go_at_call 47; refine cS.out.mono ?_; rintro e w1 ⟨⟨v1, rfl, hO1⟩, hB1⟩; obtain ⟨p1, cap1, rfl, hrow1⟩ := hO1.row; have hjw := (hB1.block jb hjcl).trans hjc.out; replace hO1 := Lib.hid hO1; replace hB1 := Lib.hid hB1; replace hrow1 := Lib.hid hrow1; replace hjw := Lib.hid hjw))
      go_loopw [11] (fun i wr => ∃ (k : Nat) (acc : List (List UInt8)) (va : Value), k ≤ L.length ∧ i = .int .i64 k ∧ Hid (LSt w1 wr jb db base text L acc k va)) (fun i _ => L.length - (intOf i).toNat)
      case atStart => exact ⟨0, [], .slice none 0 0, by omega, rfl, Lib.hid ⟨ToldTo.start _ _, hjw.out, Own.nil _ _, Kp.refl _ _, by simp⟩⟩
      case round =>
        obtain ⟨k, acc, va, hk, rfl, hL⟩ := hrel
        obtain ⟨p3, cap3, rfl, hrow3⟩ := hL.out.own.row
        have hobj := hL.out.obj
        have kp3 := hL.out.kp
        have k2 : wr.cell? ⟨jb, 2, none⟩ = some (.int .i64 (base : Nat)) := obj_cell hobj rfl
        have k3 : wr.cell? ⟨jb, 3, none⟩ = some (.slice p3 acc.length cap3) := obj_cell hobj rfl
        have z3 := obj_free hobj
        have hjbl := obj_lt hobj
        by_cases hkl : k < L.length
        · obtain ⟨g1, g2⟩ := hrow1.out
          obtain ⟨rb, off, rfl, hrbl, hc⟩ := g2.resolve_left (by omega)
          have hrb := hO1.out.lt rb rfl
          have hjrb : rb ≠ jb := by omega
          have ck : wr.cell? ⟨rb, off + k, none⟩ = some (.string ⟨(L.getD k []).toArray⟩) := kp3.cell (hc k hkl) hjrb
          have cp : 0 < k → wr.cell? ⟨rb, off + (k - 1), none⟩ = some (.string ⟨(L.getD (k - 1) []).toArray⟩) := fun _ => kp3.cell (hc (k - 1) (by omega)) hjrb
          have hnn := fun w => numberR_any (⟨(L.getD k []).toArray⟩ : ByteArray) w
          have hnp := fun w => numberR_any (⟨(L.getD (k - 1) []).toArray⟩ : ByteArray) w
          rw [bl_mk] at hnn hnp
          have hkz : (k : Int) < (L.length : Int) := by omega
          obtain ⟨S, hS⟩ : ∃ S : ByteArray, (⟨(L.getD k []).toArray⟩ : ByteArray) = S := ⟨_, rfl⟩
          obtain ⟨S0, hS0⟩ : ∃ S : ByteArray, (⟨(L.getD (k - 1) []).toArray⟩ : ByteArray) = S := ⟨_, rfl⟩
          rw [hS] at hnn ck
          rw [hS0] at hnp cp
          replace hS := Lib.hid hS
          replace hS0 := Lib.hid hS0
          replace hnn := Lib.hid hnn
          replace hnp := Lib.hid hnp
          replace cp := Lib.hid cp
          replace hobj := Lib.hid hobj
          replace kp3 := Lib.hid kp3
          replace hrow3 := Lib.hid hrow3
          clear hc g2
          have hbadw : walkR base none L = none → openJ m = (8, m, none) := fun e => by rw [hop.out, e]
          replace hbadw := Lib.hid hbadw
          have hend : Hid (Kp (fun _ => False) w wr ∧ IsR wr db m) := by
            have hKB : Below w.heap.size w w1 := hKc'.out.trans (hB1.out.mono (by have := hKc'.out.size; omega))
            have hKB2 : Below w.heap.size w wr := hKB.trans (kp3.out.below (by have := hKB.size; omega) (fun j hj e => by rw [hjb.out] at hj; omega))
            exact Lib.hid ⟨Kp.of_below hKB2, h.out.kept (Kp.of_below (F := fun _ => False) hKB2) (fun h => h)⟩
          cases hn : num8 (L.getD k []) with
          | none =>
            have ho := hbadw.out (hL.out.told.bad hkl (.inl hn))
            rw [numI_none hn] at hnn
            replace hn := Lib.hid hn
            replace ho := Lib.hid ho
            go_wp2_with (first | (go_at_call 48; (with_reducible refine (hnn.out _).mono ?_); rintro e w2 ⟨rfl, rfl⟩))
            go_ret2
            rw [ho.out]
            exact ⟨hend.out.1.mono (fun _ _ h => h.elim), rfl, hend.out.2⟩
          | some n =>
            obtain ⟨hn1, hn2⟩ := num8_lt hn
            rw [numI_some hn] at hnn
            obtain ⟨bad, hbad⟩ : ∃ b : Bool, b = decide (n < 1 ∨ wrongNext base (prevAt L k) n) := ⟨_, rfl⟩
            go_upto_region 15 with (first | (go_at_call 48; (with_reducible refine (hnn.out _).mono ?_); rintro e w2 ⟨rfl, rfl⟩))
            go_cut [113] from 73 to 133 (fun c wx => c = .bool bad ∧ wx = wr)
            case first =>
              by_cases hz : n < 1
              · obtain rfl : bad = true := by rw [hbad]; exact decide_eq_true (.inl hz)
                have hzz : (n : Int) < 1 := by omega
                clear hbad hn hz
                go_wp2_with fail
                go_meet
                case rel => exact ⟨rfl, rfl⟩
              · have hzz : ¬ (n : Int) < 1 := by omega
                by_cases h0 : k = 0
                · subst h0
                  have hp0 : prevAt L 0 = none := rfl
                  rw [hp0] at hbad
                  have hzb : bad = decide ((base : Int) + 1 < (n : Int)) := by
                    rw [hbad]
                    apply decide_eq_decide.2
                    unfold wrongNext
                    omega
                  clear hbad hn hz hp0
                  by_cases hb : (base : Int) + 1 < (n : Int)
                  · obtain rfl : bad = true := by rw [hzb]; exact decide_eq_true hb
                    clear hzb
                    go_wp2_with fail
                    go_meet
                    case rel => exact ⟨rfl, rfl⟩
                  · obtain rfl : bad = false := by rw [hzb]; exact decide_eq_false hb
                    clear hzb
                    go_wp2_with fail
                    go_meet
                    case rel => exact ⟨rfl, rfl⟩
                · have hpp : prevAt L k = num8 (L.getD (k - 1) []) := if_neg h0
                  obtain ⟨pr, hpr⟩ := Option.isSome_iff_exists.1 (hL.out.told.2 h0)
                  have hpl := (num8_lt hpr).1
                  rw [numI_some hpr] at hnp
                  have cp' := cp.out (by omega)
                  have hk0 : (0 : Int) < (k : Int) := by omega
                  have hkb : ((k : Int) == 0) = false := by simp; omega
                  have hkw : IntKind.i64.wrap ((k : Int) - 1) = ((k - 1 : Nat) : Int) := by rw [IntKind.wrap_i64] <;> omega
                  have hkl1 : ((k - 1 : Nat) : Int) < (L.length : Int) := by omega
                  have hkn : (((k - 1 : Nat) : Int)).toNat = k - 1 := by omega
                  rw [hpp, hpr] at hbad
                  have hzb : bad = decide ((n : Int) ≠ (pr : Int) + 1) := by
                    rw [hbad]
                    apply decide_eq_decide.2
                    unfold wrongNext
                    omega
                  clear hbad hn hz hpp hpr
                  by_cases hb : (n : Int) = (pr : Int) + 1
                  · obtain rfl : bad = false := by rw [hzb]; simp [hb]
                    have hbb : ((n : Int) != (pr : Int) + 1) = false := by simp [hb]
                    clear hzb hb
                    go_wp2_with (first | (go_at_call 48; (with_reducible refine (hnp.out _).mono ?_); rintro e w2 ⟨rfl, rfl⟩))
                    go_meet
                    case rel => exact ⟨rfl, rfl⟩
                  · obtain rfl : bad = true := by rw [hzb]; simp [hb]
                    have hbb : ((n : Int) != (pr : Int) + 1) = true := by simp [hb]
                    clear hzb hb
                    go_wp2_with (first | (go_at_call 48; (with_reducible refine (hnp.out _).mono ?_); rintro e w2 ⟨rfl, rfl⟩))
                    go_meet
                    case rel => exact ⟨rfl, rfl⟩
            case rest =>
              obtain ⟨rfl, hwx⟩ := hcut
              subst hwx
              cases hbv : bad with
              | true =>
                rw [hbv] at hbad
                have hw := of_decide_eq_true hbad.symm
                have ho := hbadw.out (hL.out.told.bad hkl (.inr ⟨n, hn, hw⟩))
                replace hn := Lib.hid hn
                replace ho := Lib.hid ho
                clear hbad hbv hw
                go_wp2_with fail
                go_ret2
                rw [ho.out]
                exact ⟨hend.out.1.mono (fun _ _ h => h.elim), rfl, hend.out.2⟩
              | false =>
                rw [hbv] at hbad
                have hw := of_decide_eq_false hbad.symm
                have hnext := hL.out.told.next hkl hn hw
                clear hbad hbv hw
                replace hn := Lib.hid hn
                by_cases hb : base < n
                · have hbz : (base : Int) < (n : Int) := by omega
                  rw [if_pos hb] at hnext
                  replace hnext := Lib.hid hnext
                  have hs8 : 8 ≤ S.size := by rw [← hS.out, mk_size]; exact hn2
                  have hs8z : (8 : Int) ≤ (S.size : Int) := by omega
                  have hX : bl (S.extract 8 S.size) = (L.getD k []).drop 8 := by rw [stop_at, ← hS.out, bl_mk]
                  have hO4 := hL.out.own
                  have hjw1 := obj_lt hjw.out
                  have hw1 := kp3.out.size
                  have haccl := hL.out.few
                  replace hX := Lib.hid hX
                  replace hO4 := Lib.hid hO4
                  go_upto_region 18 with (fail)
                  obtain ⟨X, hXX⟩ : ∃ X, S.extract 8 S.size = X := ⟨_, rfl⟩
                  have hOW : Own w1.heap.size (wc.drew.alloc (.cells #[.string X] 9)) (.slice p3 acc.length cap3) acc := Own.alloc (w := wc.drew) hO4.out _
                  have hKW : Kp (· = jb) w1 (wc.drew.alloc (.cells #[.string X] 9)) := kp3.out.drew.alloc _
                  have hjW : (wc.drew.alloc (.cells #[.string X] 9)).heap[jb]? = some (.cells (jArr db text base (.slice p3 acc.length cap3)) 86 (0, 0)) := (Below.heap_alloc _ _ _ hjbl).trans hobj.out
                  obtain ⟨v6, w6, hrun6, hO7, hG7⟩ := appS_run _ _ _ _ hOW hKW.size (some ⟨wc.drew.heap.size, 0, none⟩) 1 1 [bl X] (srow_one wc.drew X) (by omega)
                  have hK7 : Kp (· = jb) w1 w6 := hKW.grown hG7 (fun k hk => .inr (hOW.lt k hk).1)
                  have hj7 := (hG7.block jb (obj_lt hjW) (fun e => by have := (hOW.lt jb e.symm).1; omega)).trans hjW
                  obtain ⟨p6, cap6, rfl, hrow6⟩ := hO7.row
                  have c6 : w6.cell? ⟨jb, 3, none⟩ = some (.slice p3 acc.length cap3) := obj_cell hj7 rfl
                  have z6 := obj_free hj7
                  have k3a : ∀ o, (wc.drew.alloc o).cell? ⟨jb, 3, none⟩ = some (.slice p3 acc.length cap3) := fun o => by rw [World.cell?_alloc_lt _ _ _ (by exact hjbl)]; exact k3
                  have hfin : LSt w1 (w6.setCell ⟨jb, 3, none⟩ (.slice p6 (acc ++ [bl X]).length cap6)) jb db base text L (acc ++ [(L.getD k []).drop 8]) (k + 1) (.slice p6 (acc ++ [bl X]).length cap6) := by
                    refine ⟨hnext.out, obj_set hj7 3 _, ?_, hK7.setCell (.inl rfl) _, by simp; omega⟩
                    rw [← hX.out, hXX]
                    exact hO7.set hjw1 _
                  replace hfin := Lib.hid hfin
                  generalize (acc ++ [bl X]).length = n6 at *
                  replace hrun6 := Lib.hid hrun6
                  replace hj7 := Lib.hid hj7
                  replace hO7 := Lib.hid hO7
                  replace hrow6 := Lib.hid hrow6
                  replace hOW := Lib.hid hOW
                  replace hKW := Lib.hid hKW
                  replace hjW := Lib.hid hjW
                  replace hK7 := Lib.hid hK7
                  go_region_law (first | (refine step_appJ rfl _ _ _ _ rfl _ _ _ _ rfl rfl hrun6.out ?_))
                  all_goals
                    go_wp2_with fail
                    go_roundw
                    case rel => exact ⟨k + 1, _, _, by omega, by go_num, hfin⟩
                    case measure => simp [intOf]; omega
                · have hbz : ¬ (base : Int) < (n : Int) := by omega
                  rw [if_neg hb, List.append_nil] at hnext
                  have hL' : Hid (LSt w1 wc jb db base text L acc (k + 1) (.slice p3 acc.length cap3)) := Lib.hid ⟨hnext, hobj.out, hL.out.own, kp3.out, Nat.le_succ_of_le hL.out.few⟩
                  replace hnext := Lib.hid hnext
                  go_wp2_with fail
                  go_roundw
                  case rel => exact ⟨k + 1, acc, _, by omega, by go_num, hL'⟩
                  case measure => simp [intOf]; omega
        · obtain rfl : k = L.length := by omega
          have hkz : ¬ (L.length : Int) < (L.length : Int) := by omega
          have ho : openJ m = openCut m en ⟨text, base, acc, false⟩ := by rw [hop.out, hL.out.told.done (Nat.le_refl _)]
          have hKB : Below w.heap.size w w1 := hKc'.out.trans (hB1.out.mono (by have := hKc'.out.size; omega))
          have hKB2 : Below w.heap.size w wr := hKB.trans (kp3.below (by have := hKB.size; omega) (fun j hj e => by rw [hjb.out] at hj; omega))
          have hRr : IsR wr db m := h.out.kept (Kp.of_below (F := fun _ => False) hKB2) (fun h => h)
          have hown := hL.out.own.lt
          have hw1j := obj_lt hjw.out
          have hRJ : RJ P wr jb db m ⟨text, base, acc, false⟩ := by
            refine ⟨hRr, ⟨p3, cap3, hobj, hrow3, ?_⟩, by omega, hP _ (Nat.le_refl _), hd⟩
            rintro a rfl
            have := hown a.block rfl
            exact ⟨hP _ (by omega), by omega, by omega, this.2⟩
          have c1 : Calls Try.prog 49 #[.pointer (some ⟨db, 0, none⟩), .int .i64 0, .int .i64 (en : Int)] wr fun e w' => e = .returned (.int .i64 (cutJ m 0 en).1) ∧ IsR w' db (cutJ m 0 en).2 ∧ Kp (· = db) wr w' := cutRJ_any db m 0 en wr hRr ok (by omega)
          have okc := okCutJ ok 0 en
          unfold openCut at ho
          generalize cutJ m 0 en = r1 at *
          obtain ⟨v1, m1⟩ := r1
          simp only at ho c1 okc
          have c2 : ∀ w', IsR w' db m1 → Calls Try.prog 49 #[.pointer (some ⟨db, 0, none⟩), .int .i64 2, .int .i64 0] w' fun e w'' => e = .returned (.int .i64 (cutJ m1 2 0).1) ∧ IsR w'' db (cutJ m1 2 0).2 ∧ Kp (· = db) w' w'' := fun w' hh => cutRJ_any db m1 2 0 w' hh okc (by omega)
          generalize cutJ m1 2 0 = r2 at *
          obtain ⟨v2, m2⟩ := r2
          simp only at ho c2
          have hjbl2 : w.heap.size ≤ jb := Nat.le_of_eq hjb.out
          replace c1 := Lib.hid c1
          replace c2 := Lib.hid c2
          replace ho := Lib.hid ho
          replace hRJ := Lib.hid hRJ
          replace hRr := Lib.hid hRr
          replace hKB2 := Lib.hid hKB2
          replace hobj := Lib.hid hobj
          replace kp3 := Lib.hid kp3
          replace hrow3 := Lib.hid hrow3
          clear hown hKB k2 k3 z3
          by_cases e1 : v1 = 0
          · subst e1
            by_cases e2' : v2 = 0
            · subst e2'
              have hE : openJ m = (0, m2, some ⟨text, base, acc, false⟩) := by rw [ho.out]; simp
              replace hE := Lib.hid hE
              go_wp2_with (first
                | (go_at_call 49; (with_reducible refine (c2.out _ hR2.out).mono ?_); rintro e w3 ⟨rfl, hR3, hK3⟩; replace hR3 := Lib.hid hR3; replace hK3 := Lib.hid hK3)
                | (go_at_call 49; (with_reducible refine c1.out.mono ?_); rintro e w2 ⟨rfl, hR2, hK2⟩; replace hR2 := Lib.hid hR2; replace hK2 := Lib.hid hK2))
              go_ret2
              rw [hE.out]
              refine ⟨((Kp.of_below hKB2.out).trans (hK2.out.mono fun _ _ e => e ▸ hd)).trans (hK3.out.mono fun _ _ e => e ▸ hd), jb, rfl, hjbl2, (hRJ.out.disked hR2.out hK2.out).disked hR3.out hK3.out⟩
            · have hE : openJ m = (v2, m2, none) := by rw [ho.out]; simp [e2']
              have bv : (v2 != 0) = true := by simpa using e2'
              replace hE := Lib.hid hE
              go_wp2_with (first
                | (go_at_call 49; (with_reducible refine (c2.out _ hR2.out).mono ?_); rintro e w3 ⟨rfl, hR3, hK3⟩; replace hR3 := Lib.hid hR3; replace hK3 := Lib.hid hK3)
                | (go_at_call 49; (with_reducible refine c1.out.mono ?_); rintro e w2 ⟨rfl, hR2, hK2⟩; replace hR2 := Lib.hid hR2; replace hK2 := Lib.hid hK2))
              go_ret2
              rw [hE.out]
              exact ⟨((Kp.of_below hKB2.out).trans (hK2.out.mono fun _ _ e => e ▸ hd)).trans (hK3.out.mono fun _ _ e => e ▸ hd), rfl, hR3.out⟩
          · have hE : openJ m = (v1, m1, none) := by rw [ho.out]; simp [e1]
            have bv : (v1 != 0) = true := by simpa using e1
            have bw : (v1 == 0) = false := by simpa using e1
            replace hE := Lib.hid hE
            go_wp2_with (first
              | (go_at_call 49; (with_reducible refine c1.out.mono ?_); rintro e w2 ⟨rfl, hR2, hK2⟩; replace hR2 := Lib.hid hR2; replace hK2 := Lib.hid hK2))
            go_ret2
            rw [hE.out]
            exact ⟨(Kp.of_below hKB2.out).trans (hK2.out.mono fun _ _ e => e ▸ hd), rfl, hR2.out⟩
end Go.Proofs.Ytidofjjghbhaaaa
