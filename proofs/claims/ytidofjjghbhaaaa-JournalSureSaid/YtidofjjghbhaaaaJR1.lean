/- The contracts of the reference's Append, Snap. -/
import Derived.Test.YtidofjjghbhaaaaJR0
import Derived.Deep.Upon
import Derived.Deep.AppendSrc
namespace Go.Proofs.Ytidofjjghbhaaaa
open Go.RowKit
set_option linter.unusedVariables false

theorem map_sv_get (q : List (List UInt8)) (j : Nat) (hj : j < q.length) : (q.map sv)[j]? = some (sv (q.getD j [])) := by
  rw [List.getElem?_map, List.getD_eq_getElem?_getD, List.getElem?_eq_getElem hj]; rfl
set_option maxRecDepth 100000 in
/-- texts behind one's own -/
theorem appS_run (w : World) (B : Nat) (v : Value) (l : List (List UInt8)) (hown : Own B w v l) (hB : B ≤ w.heap.size) (p : Option Addr) (n cap : Nat) (q : List (List UInt8)) (hs : SRow w p n q) (hn : l.length + n ≤ 33554432) :
    ∃ v' w', (Builtin.append_ #[52, 52] 52 #[v, .slice p n cap]).run Try.prog w = .ok v' w' ∧ Own B w' v' (l ++ q) ∧ w.grownBy w' v.ownBlock := by
  obtain ⟨i0, hi, hz0, hz1, hz2⟩ := info_parts Try.info9
  obtain ⟨hq, hc⟩ := hs
  have key : ∀ a, p = some a → (∀ j u, (q.map sv)[j]? = some u → w.cell? (a.add j) = some u) → ∃ v' w', (Builtin.append_ #[52, 52] 52 #[v, .slice p n cap]).run Try.prog w = .ok v' w' ∧ Own B w' v' (l ++ q) ∧ w.grownBy w' v.ownBlock := by
    rintro a rfl hnews
    obtain ⟨v', w', h1, h2, h3, _⟩ := run_append_own (P := Try.prog) w B 52 52 9 i0 (.string ⟨#[]⟩) 1 16 Try.underlying52 hi hz0 hz1 hz2 rfl (by decide) v l.length (l.map sv) hown a n cap (q.map sv) (by simp [hq]) hnews
      (fun u hu => by obtain ⟨x, _, rfl⟩ := List.mem_map.1 hu; rfl) (by unfold maxLen; omega) (by omega) hB
    refine ⟨v', w', h1, ?_, h3⟩
    unfold Own
    rw [List.length_append, List.map_append, hq]
    exact h2
  by_cases h0 : n = 0
  · subst h0
    have hq0 : q = [] := List.eq_nil_of_length_eq_zero hq
    cases p with
    | some a => exact key a rfl (fun j u hu => by rw [hq0] at hu; simp at hu)
    | none =>
      subst hq0
      have hsl : ∃ b sl sc, v = .slice b sl sc ∧ sl ≤ sc := by
        rcases hown.2 with ⟨rfl, _⟩ | ⟨g, c, cur, rfl, _, _, hle, _⟩
        · exact ⟨none, 0, 0, rfl, Nat.le_refl _⟩
        · exact ⟨_, _, _, rfl, hle⟩
      obtain ⟨b, sl, sc, rfl, hle⟩ := hsl
      exact ⟨_, w, run_append_nothing w 52 52 52 9 i0 Try.underlying52 hi b sl sc hle _ (Src.ofNil w Try.underlying52 cap), by rw [List.append_nil]; exact hown, ⟨rfl, rfl, rfl, Nat.le_refl _, fun _ _ _ => rfl⟩⟩
  · obtain ⟨b, off, rfl, hlt, hcell⟩ := hc.resolve_left h0
    refine key _ rfl fun j u hu => ?_
    have hj : j < q.length := by
      have := (List.getElem?_eq_some_iff.1 hu).1
      simpa using this
    rw [map_sv_get q j hj] at hu
    injection hu with hu
    rw [Go.WideShapes.add_plain, hcell j (by omega), ← hu]
    rfl
theorem wpList_appS {ops : Array Oper} {rest : List Oper} {o : Oper} {a : Act} {w : World} {Q : Exit → Act → World → Prop} (hgd : o.guard = none) (sl x : Operand) (hty : o.type = 52)
    (ho : o.op = .call { callee := .builtin .append, args := #[sl, x], argTypes := #[52, 52] })
    (B : Nat) (v : Value) (l : List (List UInt8)) (hs : a.eval sl = v) (hown : Own B w v l) (hB : B ≤ w.heap.size) (p : Option Addr) (n cap : Nat) (q : List (List UInt8)) (hx : a.eval x = .slice p n cap) (hq : SRow w p n q) (hn : l.length + n ≤ 33554432)
    (h : ∀ v' w', Own B w' v' (l ++ q) → w.grownBy w' v.ownBlock → wpList Try.prog ops Q rest (a.put o.dst v') w') : wpList Try.prog ops Q (o :: rest) a w := by
  refine wpList_plain hgd fun K hK => ?_
  obtain ⟨v', w', hr, h2, h3⟩ := appS_run w B v l hown hB p n cap q hq hn
  unfold Oper.wp execOp
  simp only [ho, hty, resolve, invoke, builtin, Sem.run_bind, Sem.run_pure, Result.andThen_ok, List.map_toArray, List.map_cons, List.map_nil, hs, hx, hr]
  exact hK _ _ (h v' w' h2 h3)

theorem Own.made9 (w : World) (B : Nat) (hB : B ≤ w.heap.size) : Own B (w.alloc (.cells #[] 9)) (.slice (some ⟨w.heap.size, 0, none⟩) 0 0) [] := World.ownsRow_made w #[] 0 hB (by decide) (by simp)
theorem srow_one (w : World) (s : ByteArray) : SRow (w.alloc (.cells #[.string s] 9)) (some ⟨w.heap.size, 0, none⟩) 1 [bl s] := by
  refine ⟨rfl, .inr ⟨_, 0, rfl, by simp, fun i hi => ?_⟩⟩
  obtain rfl : i = 0 := by omega
  rw [cell_of_row _ w.heap.size _ _ 9 (0, 0) (heap_alloc_new w _)]
  show some _ = some (sv (bl s))
  rw [sv_bl]
  rfl
theorem RJ.kept {P : Nat → Prop} {w w' : World} {jb db : Nat} {m : DM} {j : JM} (h : RJ P w jb db m j) (hb : Below w.heap.size w w') : RJ P w' jb db m j := by
  obtain ⟨h1, ⟨p, cap, h2, h3, h4⟩, h5, h6, h7⟩ := h
  exact ⟨h1.kept (Kp.of_below (F := fun _ => False) hb) (fun h => h), ⟨p, cap, (hb.block jb (obj_lt h2)).trans h2, h3.kept hb, fun a e => ⟨(h4 a e).1, (h4 a e).2.1, (h4 a e).2.2.1, Nat.lt_of_lt_of_le (h4 a e).2.2.2 hb.size⟩⟩, h5, h6, h7⟩
/-- a call of the disk's -/
theorem RJ.disked {P : Nat → Prop} {w w' : World} {jb db : Nat} {m m' : DM} {j : JM} (h : RJ P w jb db m j) (hR : IsR w' db m') (hK : Kp (· = db) w w') : RJ P w' jb db m' j := by
  obtain ⟨h1, ⟨p, cap, h2, h3, h4⟩, h5, h6, h7⟩ := h
  refine ⟨hR, ⟨p, cap, (hK.block jb (obj_lt h2) h5).trans h2, ?_, fun a e => ⟨(h4 a e).1, (h4 a e).2.1, (h4 a e).2.2.1, Nat.lt_of_lt_of_le (h4 a e).2.2.2 hK.size⟩⟩, h5, h6, h7⟩
  obtain ⟨g1, g2⟩ := h3
  refine ⟨g1, g2.imp id ?_⟩
  rintro ⟨b, off, rfl, hlt, hc⟩
  refine ⟨b, off, rfl, Nat.lt_of_lt_of_le hlt hK.size, fun i hi => ?_⟩
  rw [World.cell?_of_block (w := w) (w' := w') (a := ⟨b, off + i, none⟩) (hK.block b hlt (h4 _ rfl).2.2.1)]; exact hc i hi

/-- it is broken now -/
theorem RJ.break {P : Nat → Prop} {w : World} {jb db : Nat} {m : DM} {j : JM} (h : RJ P w jb db m j) : RJ P (w.setCell ⟨jb, 4, none⟩ (.bool true)) jb db m { j with broken := true } := by
  obtain ⟨h1, ⟨p, cap, h2, h3, h4⟩, h5, h6, h7⟩ := h
  refine ⟨h1.kept (kp_set (b := jb)) (fun e => h5 e.symm), ⟨p, cap, obj_set h2 4 _, ?_, fun a e => ⟨(h4 a e).1, (h4 a e).2.1, (h4 a e).2.2.1, by simpa using (h4 a e).2.2.2⟩⟩, h5, h6, h7⟩
  obtain ⟨g1, g2⟩ := h3
  refine ⟨g1, g2.imp id ?_⟩
  rintro ⟨b, off, rfl, hlt, hc⟩
  refine ⟨b, off, rfl, by simpa using hlt, fun i hi => ?_⟩
  rw [World.cell?_setCell_other _ _ _ _ (fun e => (h4 _ rfl).2.1 (congrArg Addr.block e).symm)]; exact hc i hi

theorem may_bad {m : DM} {j : JM} {b : List UInt8} (h : j.may b ≠ 0) : appJ m j b = (j.may b, m, j) ∧ snapJ m j b = (j.may b, m, j) := by
  unfold JM.may at *
  unfold appJ snapJ
  by_cases h1 : 65528 < b.length
  · rw [if_pos h1, if_pos h1, if_pos h1]; exact ⟨rfl, rfl⟩
  · rw [if_neg h1] at h ⊢
    rw [if_neg h1, if_neg h1]
    cases hb : j.broken with
    | true => simp
    | false => rw [hb] at h; simp at h

set_option maxHeartbeats 4000000 in
set_option maxRecDepth 100000 in
theorem appJR_any (P : Nat → Prop) (jb db : Nat) (m : DM) (j : JM) (s : ByteArray) (w : World) (h : RJ P w jb db m j) (ok : m.Ok) (hP : ∀ i, w.heap.size ≤ i → P i) (hs : s.size ≤ 40000) (hl : j.last < 9223372036854000000) (hrl : j.recs.length < 33000000) :
    Calls Try.prog 22 #[.pointer (some ⟨jb, 0, none⟩), .string s] w fun e w' => e = .returned (.int .i64 (appJ m j (bl s)).1) ∧ RJ P w' jb db (appJ m j (bl s)).2.1 (appJ m j (bl s)).2.2 ∧ Kp P w w' := by
  have hM := mayR_any P jb db m j s w h
  by_cases hmay : j.may (bl s) ≠ 0
  · rw [(may_bad (m := m) hmay).1]
    generalize j.may (bl s) = v at *
    have hv : (v != 0) = true := by simpa using hmay
    replace h := Lib.hid h
    replace hM := Lib.hid hM
    go_enter Try.func22, Try.ntmps22
    go_wp2_with (first | (go_at_call 58; refine hM.out.mono ?_; rintro e w' ⟨rfl, rfl⟩))
    go_ret
    exact ⟨rfl, h.out, Kp.refl _ _⟩
  · have hm0 : j.may (bl s) = 0 := by omega
    rw [hm0] at hM
    obtain ⟨p, cap, hj, hrow, hpa⟩ := h.jobj
    have k0 : w.cell? ⟨jb, 0, none⟩ = some (.pointer (some ⟨db, 0, none⟩)) := obj_cell hj rfl
    have k2 : w.cell? ⟨jb, 2, none⟩ = some (.int .i64 (j.base : Nat)) := obj_cell hj rfl
    have k3 : w.cell? ⟨jb, 3, none⟩ = some (.slice p j.recs.length cap) := obj_cell hj rfl
    have hjl := obj_lt hj
    have hE := fun w => eightR_any (j.base + j.recs.length + 1) w (by unfold JM.last at hl; omega)
    have hadd : ∀ w, (Op.stringOp .add (⟨(eight (j.base + j.recs.length + 1)).toArray⟩ : ByteArray) s).run Try.prog w = .ok (.string ⟨(eight (j.base + j.recs.length + 1) ++ bl s).toArray⟩) w := fun w => by
      rw [run_string_add_sum w _ _ (by rw [mk_size, eight_length]; omega)]
      congr 2
    have hPut := fun w => putR_any (eight (j.base + j.recs.length + 1) ++ bl s) w (by rw [List.length_append, eight_length, bl_length]; omega)
    have hz2 : IntKind.i64.wrap ((j.base : Int) + (j.recs.length : Int)) = (j.base : Int) + (j.recs.length : Int) := by unfold JM.last at hl; rw [IntKind.wrap_i64]; omega
    have hz3 : IntKind.i64.wrap ((j.base : Int) + (j.recs.length : Int) + 1) = ((j.base + j.recs.length + 1 : Nat) : Int) := by unfold JM.last at hl; rw [IntKind.wrap_i64]; omega
    generalize hN : j.base + j.recs.length + 1 = N at *
    generalize hE8 : (⟨(eight N).toArray⟩ : ByteArray) = E8 at *
    generalize hX8 : (⟨(eight N ++ bl s).toArray⟩ : ByteArray) = X8 at *
    generalize hFr : (⟨(frame (eight N ++ bl s)).toArray⟩ : ByteArray) = Fr at *
    replace h := Lib.hid h
    replace hM := Lib.hid hM
    replace hE := Lib.hid hE
    replace hPut := Lib.hid hPut
    replace hN := Lib.hid hN
    replace hE8 := Lib.hid hE8
    replace hX8 := Lib.hid hX8
    replace hFr := Lib.hid hFr
    replace hj := Lib.hid hj
    replace hrow := Lib.hid hrow
    go_enter Try.func22, Try.ntmps22
    go_upto_region 4 with (first | (go_at_call 58; refine hM.out.mono ?_; rintro e w' ⟨rfl, rfl⟩))
    go_region_held3 (fun w' => w'.cell? ⟨jb, 2, none⟩ = some (.int .i64 (j.base : Nat)) ∧ w'.cell? ⟨jb, 3, none⟩ = some (.slice p j.recs.length cap)) (first | exact ⟨k2, k3⟩ | exact hHeld | exact ⟨q2, q3⟩)
      (first
        | (go_at_call 60; (with_reducible refine (hE.out _).mono ?_); rintro e w1 ⟨rfl, hb1⟩; have q2 := (hb1.cell (p := ⟨jb, 2, none⟩) hjl).trans k2; have q3 := (hb1.cell (p := ⟨jb, 3, none⟩) hjl).trans k3; replace hb1 := Lib.hid hb1)
        | (go_at_call 59; (with_reducible refine (hPut.out _).mono ?_); rintro e w2 ⟨rfl, hb2⟩; have hb12 := hb1.out.trans (hb2.mono hb1.out.size); have q2 := (hb12.cell (p := ⟨jb, 2, none⟩) hjl).trans k2; have q3 := (hb12.cell (p := ⟨jb, 3, none⟩) hjl).trans k3; replace hb12 := Lib.hid hb12; clear hb2))
    have hK2 : Below w.heap.size w w2 := (Below.refl _ w).drew.trans hb12.out
    have hRJ := h.out.kept hK2
    have d0 := (hK2.cell (p := ⟨jb, 0, none⟩) hjl).trans k0
    have hbFr : bl Fr = frame (eight (j.last + 1) ++ bl s) := by rw [← hFr.out, bl_mk, ← hN.out]; rfl
    have cA := appR_any db m 0 Fr w2 hRJ.disk ok
    rw [hbFr] at cA
    have hEq : appJ m j (bl s) = (if (m.app 0 (frame (eight (j.last + 1) ++ bl s))).1 = 4 then (4, (m.app 0 (frame (eight (j.last + 1) ++ bl s))).2, j) else
        if (if (m.app 0 (frame (eight (j.last + 1) ++ bl s))).1 = 0 then (m.app 0 (frame (eight (j.last + 1) ++ bl s))).2.syn 0 else m.app 0 (frame (eight (j.last + 1) ++ bl s))).1 = 0
          then (0, (if (m.app 0 (frame (eight (j.last + 1) ++ bl s))).1 = 0 then (m.app 0 (frame (eight (j.last + 1) ++ bl s))).2.syn 0 else m.app 0 (frame (eight (j.last + 1) ++ bl s))).2, { j with recs := j.recs ++ [bl s] })
          else ((if (m.app 0 (frame (eight (j.last + 1) ++ bl s))).1 = 0 then (m.app 0 (frame (eight (j.last + 1) ++ bl s))).2.syn 0 else m.app 0 (frame (eight (j.last + 1) ++ bl s))).1,
            (if (m.app 0 (frame (eight (j.last + 1) ++ bl s))).1 = 0 then (m.app 0 (frame (eight (j.last + 1) ++ bl s))).2.syn 0 else m.app 0 (frame (eight (j.last + 1) ++ bl s))).2, { j with broken := true })) := by
      unfold JM.may at hm0
      by_cases h1 : 65528 < (bl s).length
      · rw [if_pos h1] at hm0; omega
      · rw [if_neg h1] at hm0
        cases hb : j.broken with
        | true => rw [hb] at hm0; simp at hm0
        | false =>
          unfold appJ
          rw [if_neg h1, hb]
          rfl
    have okA := ok.app 0 (frame (eight (j.last + 1) ++ bl s))
    generalize m.app 0 (frame (eight (j.last + 1) ++ bl s)) = A at *
    obtain ⟨v1, m1⟩ := A
    simp only at hEq cA okA
    replace hEq := Lib.hid hEq
    replace hbFr := Lib.hid hbFr
    replace hRJ := Lib.hid hRJ
    replace cA := Lib.hid cA
    replace okA := Lib.hid okA
    replace hK2 := Lib.hid hK2
    clear k0 k2 k3 q2 q3 hadd hz2 hz3
    by_cases e4 : v1 = 4
    · subst e4
      go_wp2_with (first | (go_at_call 12; refine cA.out.mono ?_; rintro e w3 ⟨rfl, hR3, hK3⟩; replace hR3 := Lib.hid hR3; replace hK3 := Lib.hid hK3))
      go_ret
      have E : appJ m j (bl s) = (4, m1, j) := by rw [hEq.out]; simp
      rw [E]
      exact ⟨rfl, hRJ.out.disked hR3.out hK3.out, (Kp.of_below hK2.out).trans (hK3.out.mono fun _ _ e => e ▸ hRJ.out.pd)⟩
    have b4 : (v1 == 4) = false := by simpa using e4
    by_cases e0 : v1 = 0
    · subst e0
      have cS := fun w h => syncR_any db m1 0 w h okA.out
      generalize hS : m1.syn 0 = S at *
      obtain ⟨v2, m2⟩ := S
      simp only at cS
      replace hS := Lib.hid hS
      replace cS := Lib.hid cS
      by_cases e2 : v2 = 0
      · subst e2
        have E : appJ m j (bl s) = (0, m2, { j with recs := j.recs ++ [bl s] }) := by rw [hEq.out]; simp
        go_upto_region 13 with (first
          | (go_at_call 12; refine cA.out.mono ?_; rintro e w3 ⟨rfl, hR3, hK3⟩; have hRJ3 := hRJ.out.disked hR3 hK3; obtain ⟨p3, cap3, hj3, hrow3, hpa3⟩ := hRJ3.jobj; have d3 : w3.cell? ⟨jb, 0, none⟩ = some (.pointer (some ⟨db, 0, none⟩)) := obj_cell hj3 rfl; replace hR3 := Lib.hid hR3; replace hK3 := Lib.hid hK3; replace hRJ3 := Lib.hid hRJ3; replace hj3 := Lib.hid hj3; replace hrow3 := Lib.hid hrow3)
          | (go_at_call 14; refine (cS.out _ hR3.out).mono ?_; rintro e w4 ⟨rfl, hR4, hK4⟩; have hRJ4 := hRJ3.out.disked hR4 hK4; replace hR4 := Lib.hid hR4; replace hK4 := Lib.hid hK4; replace hRJ4 := Lib.hid hRJ4))
        clear d3
        obtain ⟨p4, cap4, hj4, hrow4, hpa4⟩ := hRJ4.out.jobj
        have c3 : w4.cell? ⟨jb, 3, none⟩ = some (.slice p4 j.recs.length cap4) := obj_cell hj4 rfl
        have hjl4 := obj_lt hj4
        have c3' : ∀ o, (w4.alloc o).cell? ⟨jb, 3, none⟩ = some (.slice p4 j.recs.length cap4) := fun o => by rw [World.cell?_alloc_lt _ _ _ hjl4]; exact c3
        replace hj4 := Lib.hid hj4
        replace hrow4 := Lib.hid hrow4
        replace E := Lib.hid E
        clear hj3 hrow3 hRJ3
        go_wp2_with (at_builtin; refine wpList_appS rfl _ _ rfl rfl w4.heap.size _ [] rfl (Own.made9 w4 _ (Nat.le_refl _)) (by simp) p4 j.recs.length cap4 j.recs rfl (hrow4.out.kept ((Below.refl _ _).alloc (Nat.le_refl _) _)) (by simp; omega) ?_)
        intro v5 w5 hO5 hG5
        have hB5 : Below w4.heap.size w4 w5 := ((Below.refl _ w4).alloc (Nat.le_refl _) _).grown hG5 (by simp) (fun k hk => by simp [Value.ownBlock] at hk; omega)
        replace hO5 : Own w4.heap.size w5 v5 j.recs := hO5
        have hO5' := hO5
        obtain ⟨p5, cap5, rfl, _⟩ := hO5'.row
        clear hO5' hG5
        have hO6 := hO5.alloc (.cells #[.string s] 9)
        have hs5 := hB5.size
        replace hO5 := Lib.hid hO5
        replace hB5 := Lib.hid hB5
        replace hO6 := Lib.hid hO6
        go_wp2_with (at_builtin; refine wpList_appS rfl _ _ rfl rfl w4.heap.size _ j.recs rfl hO6.out (by simp; omega) (some ⟨w5.heap.size, 0, none⟩) 1 1 [bl s] rfl (srow_one w5 s) (by omega) ?_)
        intro v6 w6 hO7 hG7
        have hB7 : Below w4.heap.size w4 w6 := (hB5.out.alloc hs5 _).grown hG7 (by simp; omega) (fun k hk => (hO6.out.lt k hk).1)
        obtain ⟨p6, cap6, rfl, hrow6⟩ := hO7.row
        have hlt6 := hO7.lt
        have hlen6 : (j.recs ++ [bl s]).length = j.recs.length + 1 := by simp
        have hj6 := (hB7.block jb hjl4).trans hj4.out
        have c6 : w6.cell? ⟨jb, 3, none⟩ = some (.slice p4 j.recs.length cap4) := obj_cell hj6 rfl
        have z6 := obj_free hj6
        have hfin : RJ P (w6.setCell ⟨jb, 3, none⟩ (.slice p6 (j.recs ++ [bl s]).length cap6)) jb db m2 { j with recs := j.recs ++ [bl s] } := by
          have hR := hRJ4.out
          refine ⟨(hR.disk.kept (Kp.of_below (F := fun _ => False) hB7) (fun h => h)).kept (kp_set (b := jb)) (fun e => hR.ne e.symm), ⟨p6, cap6, obj_set hj6 3 _, ?_, ?_⟩, hR.ne, hR.pj, hR.pd⟩
          · obtain ⟨g1, g2⟩ := hrow6
            refine ⟨g1, g2.imp id ?_⟩
            rintro ⟨b, off, rfl, hlt, hc⟩
            have hbl := hlt6 b rfl
            refine ⟨b, off, rfl, by simpa using hlt, fun i hi => ?_⟩
            rw [World.cell?_setCell_other _ _ _ _ (fun e => by have := congrArg Addr.block e; simp at this; omega)]; exact hc i hi
          · rintro a rfl
            have hbl := hlt6 a.block rfl
            have hsz := hK2.out.size
            have hs3 := hK3.out.size
            have hs4 := hK4.out.size
            have := obj_lt hR.disk
            refine ⟨hP _ (by omega), by omega, by omega, by simpa using hbl.2⟩
        have hkp : Kp P w (w6.setCell ⟨jb, 3, none⟩ (.slice p6 (j.recs ++ [bl s]).length cap6)) :=
          ((((Kp.of_below hK2.out).trans (hK3.out.mono fun _ _ e => e ▸ hRJ.out.pd)).trans (hK4.out.mono fun _ _ e => e ▸ hRJ.out.pd)).trans (Kp.of_below hB7)).setCell (.inl hRJ.out.pj) _
        replace hfin := Lib.hid hfin
        replace hkp := Lib.hid hkp
        generalize (j.recs ++ [bl s]).length = n6 at *
        replace hlen6 := Lib.hid hlen6
        go_wp2_with fail
        go_ret
        rw [E.out]
        exact ⟨rfl, hfin.out, hkp.out⟩
      · have E : appJ m j (bl s) = (v2, m2, { j with broken := true }) := by rw [hEq.out]; simp [e2]
        have bv : (v2 == 0) = false := by simpa using e2
        have bw : (v2 != 0) = true := by simpa using e2
        replace E := Lib.hid E
        go_wp2_with (first
          | (go_at_call 12; refine cA.out.mono ?_; rintro e w3 ⟨rfl, hR3, hK3⟩; have hRJ3 := hRJ.out.disked hR3 hK3; obtain ⟨p3, cap3, hj3, hrow3, hpa3⟩ := hRJ3.jobj; have d3 : w3.cell? ⟨jb, 0, none⟩ = some (.pointer (some ⟨db, 0, none⟩)) := obj_cell hj3 rfl; have b3 : w3.cell? ⟨jb, 4, none⟩ = some (.bool j.broken) := obj_cell hj3 rfl; have z3 := obj_free hj3; replace hR3 := Lib.hid hR3; replace hK3 := Lib.hid hK3; replace hRJ3 := Lib.hid hRJ3; replace hj3 := Lib.hid hj3; replace hrow3 := Lib.hid hrow3)
          | (go_at_call 14; refine (cS.out _ hR3.out).mono ?_; rintro e w4 ⟨rfl, hR4, hK4⟩; have hRJ4 := hRJ3.out.disked hR4 hK4; obtain ⟨p4, cap4, hj4, hrow4, hpa4⟩ := hRJ4.jobj; have b4' : w4.cell? ⟨jb, 4, none⟩ = some (.bool j.broken) := obj_cell hj4 rfl; have z4 := obj_free hj4; replace hR4 := Lib.hid hR4; replace hK4 := Lib.hid hK4; replace hRJ4 := Lib.hid hRJ4; replace hj4 := Lib.hid hj4; replace hrow4 := Lib.hid hrow4))
        go_ret
        rw [E.out]
        exact ⟨rfl, hRJ4.out.break, (((Kp.of_below hK2.out).trans (hK3.out.mono fun _ _ e => e ▸ hRJ.out.pd)).trans (hK4.out.mono fun _ _ e => e ▸ hRJ.out.pd)).setCell (.inl hRJ.out.pj) _⟩
    · have E : appJ m j (bl s) = (v1, m1, { j with broken := true }) := by rw [hEq.out]; simp [e4, e0]
      have bv : (v1 == 0) = false := by simpa using e0
      have bw : (v1 != 0) = true := by simpa using e0
      replace E := Lib.hid E
      go_wp2_with (first
        | (go_at_call 12; refine cA.out.mono ?_; rintro e w3 ⟨rfl, hR3, hK3⟩; have hRJ3 := hRJ.out.disked hR3 hK3; obtain ⟨p3, cap3, hj3, hrow3, hpa3⟩ := hRJ3.jobj; have d3 : w3.cell? ⟨jb, 0, none⟩ = some (.pointer (some ⟨db, 0, none⟩)) := obj_cell hj3 rfl; have b3 : w3.cell? ⟨jb, 4, none⟩ = some (.bool j.broken) := obj_cell hj3 rfl; have z3 := obj_free hj3; replace hR3 := Lib.hid hR3; replace hK3 := Lib.hid hK3; replace hRJ3 := Lib.hid hRJ3; replace hj3 := Lib.hid hj3; replace hrow3 := Lib.hid hrow3))
      go_ret
      rw [E.out]
      exact ⟨rfl, hRJ3.out.break, ((Kp.of_below hK2.out).trans (hK3.out.mono fun _ _ e => e ▸ hRJ.out.pd)).setCell (.inl hRJ.out.pj) _⟩
end Go.Proofs.Ytidofjjghbhaaaa
