/- The contract of the reference's Snap. -/
import Derived.Test.YtidofjjghbhaaaaJR1
namespace Go.Proofs.Ytidofjjghbhaaaa
open Go.RowKit
set_option linter.unusedVariables false

theorem snapJ_eq (m : DM) (j : JM) (b : List UInt8) (h0 : j.may b = 0) (c A S M Z : Int × DM) (hc : cutJ m 2 0 = c) (hA : c.2.app 2 (frame (eight j.last ++ b)) = A) (hS : A.2.syn 2 = S) (hM : S.2.mov 2 1 = M) (hZ : M.2.cut 0 0 = Z) :
    snapJ m j b = if c.1 ≠ 0 then (c.1, c.2, { j with broken := true }) else if A.1 = 4 then (4, A.2, j) else if A.1 ≠ 0 then (A.1, A.2, { j with broken := true }) else
      if S.1 ≠ 0 then (S.1, S.2, { j with broken := true }) else if M.1 ≠ 0 then (M.1, M.2, { j with broken := true }) else if Z.1 ≠ 0 then (Z.1, Z.2, { j with broken := true }) else (0, Z.2, ⟨b, j.last, [], false⟩) := by
  subst hc; subst hA; subst hS; subst hM; subst hZ
  unfold JM.may at h0
  unfold snapJ
  by_cases h1 : 65528 < b.length
  · rw [if_pos h1] at h0; omega
  · rw [if_neg h1] at h0 ⊢
    cases hb : j.broken with
    | true => rw [hb] at h0; simp at h0
    | false => rfl

/-- the snapshot is another one -/
theorem RJ.anew {P : Nat → Prop} {w : World} {jb db n : Nat} {m : DM} {j : JM} {s : ByteArray} (h : RJ P w jb db m j) (hb : j.broken = false) :
    RJ P (((w.setCell ⟨jb, 2, none⟩ (.int .i64 (n : Nat))).setCell ⟨jb, 1, none⟩ (.string s)).setCell ⟨jb, 3, none⟩ (.slice none 0 0)) jb db m ⟨bl s, n, [], false⟩ := by
  obtain ⟨h1, ⟨p, cap, h2, h3, h4⟩, h5, h6, h7⟩ := h
  have hk : Kp (· = jb) w (((w.setCell ⟨jb, 2, none⟩ (.int .i64 (n : Nat))).setCell ⟨jb, 1, none⟩ (.string s)).setCell ⟨jb, 3, none⟩ (.slice none 0 0)) := (kp_set.trans kp_set).trans kp_set
  refine ⟨h1.kept hk (fun e => h5 e.symm), ⟨none, 0, ?_, ⟨rfl, .inl rfl⟩, fun a h => by cases h⟩, h5, h6, h7⟩
  have ho := obj_set (obj_set (obj_set h2 2 (.int .i64 (n : Nat))) 1 (.string s)) 3 (.slice none 0 0)
  rw [hb, ← sv_bl s] at ho
  rw [← sv_bl s]
  exact ho

set_option maxHeartbeats 8000000 in
set_option maxRecDepth 100000 in
theorem snapJR_any (P : Nat → Prop) (jb db : Nat) (m : DM) (j : JM) (s : ByteArray) (w : World) (h : RJ P w jb db m j) (ok : m.Ok) (hs : s.size ≤ 40000) (hl : j.last < 9223372036854000000) :
    Calls Try.prog 24 #[.pointer (some ⟨jb, 0, none⟩), .string s] w fun e w' => e = .returned (.int .i64 (snapJ m j (bl s)).1) ∧ RJ P w' jb db (snapJ m j (bl s)).2.1 (snapJ m j (bl s)).2.2 ∧ Kp P w w' := by
  have hM := mayR_any P jb db m j s w h
  by_cases hmay : j.may (bl s) ≠ 0
  · rw [(may_bad (m := m) hmay).2]
    generalize j.may (bl s) = v at *
    have hv : (v != 0) = true := by simpa using hmay
    replace h := Lib.hid h
    replace hM := Lib.hid hM
    go_enter Try.func24, Try.ntmps24
    go_wp2_with (first | (go_at_call 58; refine hM.out.mono ?_; rintro e w' ⟨rfl, rfl⟩))
    go_ret
    exact ⟨rfl, h.out, Kp.refl _ _⟩
  · have hm0 : j.may (bl s) = 0 := by omega
    have hbr : j.broken = false := by
      unfold JM.may at hm0
      by_cases h1 : 65528 < (bl s).length
      · rw [if_pos h1] at hm0; omega
      · rw [if_neg h1] at hm0
        cases hb : j.broken with
        | true => rw [hb] at hm0; simp at hm0
        | false => rfl
    rw [hm0] at hM
    obtain ⟨p, cap, hj, hrow, hpa⟩ := h.jobj
    have k0 : w.cell? ⟨jb, 0, none⟩ = some (.pointer (some ⟨db, 0, none⟩)) := obj_cell hj rfl
    have k2 : w.cell? ⟨jb, 2, none⟩ = some (.int .i64 (j.base : Nat)) := obj_cell hj rfl
    have k3 : w.cell? ⟨jb, 3, none⟩ = some (.slice p j.recs.length cap) := obj_cell hj rfl
    have hjl := obj_lt hj
    have hE := fun w => eightR_any (j.base + j.recs.length) w (by unfold JM.last at hl; omega)
    have hadd : ∀ w, (Op.stringOp .add (⟨(eight (j.base + j.recs.length)).toArray⟩ : ByteArray) s).run Try.prog w = .ok (.string ⟨(eight (j.base + j.recs.length) ++ bl s).toArray⟩) w := fun w => by
      rw [run_string_add_sum w _ _ (by rw [mk_size, eight_length]; omega)]
      congr 2
    have hPut := fun w => putR_any (eight (j.base + j.recs.length) ++ bl s) w (by rw [List.length_append, eight_length, bl_length]; omega)
    have hz2 : IntKind.i64.wrap ((j.base : Int) + (j.recs.length : Int)) = ((j.base + j.recs.length : Nat) : Int) := by unfold JM.last at hl; rw [IntKind.wrap_i64]; omega
    have hlast : j.last = j.base + j.recs.length := rfl
    -- the disk's calls
    obtain ⟨vc, mc, hc⟩ : ∃ v m', cutJ m 2 0 = (v, m') := ⟨_, _, rfl⟩
    obtain ⟨vA, mA, hA⟩ : ∃ v m', mc.app 2 (frame (eight j.last ++ bl s)) = (v, m') := ⟨_, _, rfl⟩
    obtain ⟨vS, mS, hS⟩ : ∃ v m', mA.syn 2 = (v, m') := ⟨_, _, rfl⟩
    obtain ⟨vM, mM, hMv⟩ : ∃ v m', mS.mov 2 1 = (v, m') := ⟨_, _, rfl⟩
    obtain ⟨vZ, mZ, hZ⟩ : ∃ v m', mM.cut 0 0 = (v, m') := ⟨_, _, rfl⟩
    have hEq := snapJ_eq m j (bl s) hm0 _ _ _ _ _ hc hA hS hMv hZ
    simp only at hEq
    have cC := fun w h => cutRJ_any db m 2 0 w h ok (by omega)
    rw [hc] at cC
    have okC : mc.Ok := by
      have h := hc
      unfold cutJ at h
      split at h
      · injection h with _ e; rw [← e]; exact ok
      · have := ok.cut ((2 : Nat) : Int) ((0 : Nat) : Int); rw [h] at this; exact this
    rw [hlast] at hA hEq
    generalize hN : j.base + j.recs.length = N at *
    generalize hE8 : (⟨(eight N).toArray⟩ : ByteArray) = E8 at *
    generalize hX8 : (⟨(eight N ++ bl s).toArray⟩ : ByteArray) = X8 at *
    generalize hFr : (⟨(frame (eight N ++ bl s)).toArray⟩ : ByteArray) = Fr at *
    have hbFr : bl Fr = frame (eight N ++ bl s) := by rw [← hFr, bl_mk]
    have cA := fun w h => appR_any db mc 2 Fr w h okC
    rw [hbFr, hA] at cA
    have okA : mA.Ok := by have := okC.app 2 (frame (eight N ++ bl s)); rw [hA] at this; exact this
    have cS := fun w h => syncR_any db mA 2 w h okA
    rw [hS] at cS
    have okS : mS.Ok := by have := okA.syn 2; rw [hS] at this; exact this
    have cM := fun w h => movR_any db mS 2 1 w h okS
    rw [hMv] at cM
    have okM : mM.Ok := by have := okS.mov 2 1; rw [hMv] at this; exact this
    have cZ := fun w h => cutR_any db mM 0 0 w h okM
    rw [hZ] at cZ
    simp only at cC cA cS cM cZ
    replace h := Lib.hid h
    replace hM := Lib.hid hM
    replace hE := Lib.hid hE
    replace hPut := Lib.hid hPut
    replace hE8 := Lib.hid hE8
    replace hX8 := Lib.hid hX8
    replace hFr := Lib.hid hFr
    replace hbFr := Lib.hid hbFr
    replace hj := Lib.hid hj
    replace hrow := Lib.hid hrow
    replace hEq := Lib.hid hEq
    replace cC := Lib.hid cC
    replace cA := Lib.hid cA
    replace cS := Lib.hid cS
    replace cM := Lib.hid cM
    replace cZ := Lib.hid cZ
    replace hc := Lib.hid hc
    replace hA := Lib.hid hA
    replace hS := Lib.hid hS
    replace hMv := Lib.hid hMv
    replace hZ := Lib.hid hZ
    replace hlast := Lib.hid hlast
    replace hm0 := Lib.hid hm0
    replace okC := Lib.hid okC
    replace okA := Lib.hid okA
    replace okS := Lib.hid okS
    replace okM := Lib.hid okM
    replace hN := Lib.hid hN
    replace hpa := Lib.hid hpa
    go_enter Try.func24, Try.ntmps24
    go_upto_region 4 with (first | (go_at_call 58; refine hM.out.mono ?_; rintro e w' ⟨rfl, rfl⟩))
    go_quiet (fail)
    go_upto_region 6 with (first
        | (go_at_call 60; (with_reducible refine (hE.out _).mono ?_); rintro e w1 ⟨rfl, hb1⟩; replace hb1 := Lib.hid hb1)
        | (go_at_call 59; (with_reducible refine (hPut.out _).mono ?_); rintro e w2 ⟨rfl, hb2⟩; have hb12 := hb1.out.trans (hb2.mono hb1.out.size); replace hb12 := Lib.hid hb12; clear hb2))
    have hK2 : Below w.heap.size w w2 := (below_dn (Below.refl _ w) _).trans hb12.out
    have hJ := h.out.kept hK2
    have dJ := (hK2.cell (p := ⟨jb, 0, none⟩) hjl).trans k0
    have kJ : Kp P w w2 := Kp.of_below hK2
    replace hJ := Lib.hid hJ
    replace kJ := Lib.hid kJ
    clear k0 k2 k3 hadd hz2
    by_cases eB : vc = 0
    · subst eB
      by_cases e4 : vA = 4
      · subst e4
        have E : snapJ m j (bl s) = (4, mA, j) := by rw [hEq.out]; simp
        replace E := Lib.hid E
        go_wp2_with (first
      | (go_at_call 49; refine (cC.out _ hJ.out.disk).mono ?_; rintro e wn ⟨rfl, hRn, hKn⟩; have kN := kJ.out.trans (hKn.mono fun _ _ e => e ▸ hJ.out.pd); have hN' := hJ.out.disked hRn hKn; clear hJ kJ dJ; (try clear bJ zJ t1 t2 t3); obtain ⟨pn, capn, hjn, _, _⟩ := hN'.jobj; have dJ : wn.cell? ⟨jb, 0, none⟩ = some (.pointer (some ⟨db, 0, none⟩)) := obj_cell hjn rfl; have bJ : wn.cell? ⟨jb, 4, none⟩ = some (.bool j.broken) := obj_cell hjn rfl; have zJ := obj_free hjn; have t1 : wn.cell? ⟨jb, 1, none⟩ = some (sv j.text) := obj_cell hjn rfl; have t2 : wn.cell? ⟨jb, 2, none⟩ = some (.int .i64 (j.base : Nat)) := obj_cell hjn rfl; have t3 : wn.cell? ⟨jb, 3, none⟩ = some (.slice pn j.recs.length capn) := obj_cell hjn rfl; have hJ := hN'; have kJ := kN; clear hN' kN hRn hKn; replace hjn := Lib.hid hjn; replace hJ := Lib.hid hJ; replace kJ := Lib.hid kJ)
      | (go_at_call 12; refine (cA.out _ hJ.out.disk).mono ?_; rintro e wn ⟨rfl, hRn, hKn⟩; have kN := kJ.out.trans (hKn.mono fun _ _ e => e ▸ hJ.out.pd); have hN' := hJ.out.disked hRn hKn; clear hJ kJ dJ; (try clear bJ zJ t1 t2 t3); obtain ⟨pn, capn, hjn, _, _⟩ := hN'.jobj; have dJ : wn.cell? ⟨jb, 0, none⟩ = some (.pointer (some ⟨db, 0, none⟩)) := obj_cell hjn rfl; have bJ : wn.cell? ⟨jb, 4, none⟩ = some (.bool j.broken) := obj_cell hjn rfl; have zJ := obj_free hjn; have t1 : wn.cell? ⟨jb, 1, none⟩ = some (sv j.text) := obj_cell hjn rfl; have t2 : wn.cell? ⟨jb, 2, none⟩ = some (.int .i64 (j.base : Nat)) := obj_cell hjn rfl; have t3 : wn.cell? ⟨jb, 3, none⟩ = some (.slice pn j.recs.length capn) := obj_cell hjn rfl; have hJ := hN'; have kJ := kN; clear hN' kN hRn hKn; replace hjn := Lib.hid hjn; replace hJ := Lib.hid hJ; replace kJ := Lib.hid kJ)
      | (go_at_call 14; refine (cS.out _ hJ.out.disk).mono ?_; rintro e wn ⟨rfl, hRn, hKn⟩; have kN := kJ.out.trans (hKn.mono fun _ _ e => e ▸ hJ.out.pd); have hN' := hJ.out.disked hRn hKn; clear hJ kJ dJ; (try clear bJ zJ t1 t2 t3); obtain ⟨pn, capn, hjn, _, _⟩ := hN'.jobj; have dJ : wn.cell? ⟨jb, 0, none⟩ = some (.pointer (some ⟨db, 0, none⟩)) := obj_cell hjn rfl; have bJ : wn.cell? ⟨jb, 4, none⟩ = some (.bool j.broken) := obj_cell hjn rfl; have zJ := obj_free hjn; have t1 : wn.cell? ⟨jb, 1, none⟩ = some (sv j.text) := obj_cell hjn rfl; have t2 : wn.cell? ⟨jb, 2, none⟩ = some (.int .i64 (j.base : Nat)) := obj_cell hjn rfl; have t3 : wn.cell? ⟨jb, 3, none⟩ = some (.slice pn j.recs.length capn) := obj_cell hjn rfl; have hJ := hN'; have kJ := kN; clear hN' kN hRn hKn; replace hjn := Lib.hid hjn; replace hJ := Lib.hid hJ; replace kJ := Lib.hid kJ)
      | (go_at_call 69; refine (cM.out _ hJ.out.disk).mono ?_; rintro e wn ⟨rfl, hRn, hKn⟩; have kN := kJ.out.trans (hKn.mono fun _ _ e => e ▸ hJ.out.pd); have hN' := hJ.out.disked hRn hKn; clear hJ kJ dJ; (try clear bJ zJ t1 t2 t3); obtain ⟨pn, capn, hjn, _, _⟩ := hN'.jobj; have dJ : wn.cell? ⟨jb, 0, none⟩ = some (.pointer (some ⟨db, 0, none⟩)) := obj_cell hjn rfl; have bJ : wn.cell? ⟨jb, 4, none⟩ = some (.bool j.broken) := obj_cell hjn rfl; have zJ := obj_free hjn; have t1 : wn.cell? ⟨jb, 1, none⟩ = some (sv j.text) := obj_cell hjn rfl; have t2 : wn.cell? ⟨jb, 2, none⟩ = some (.int .i64 (j.base : Nat)) := obj_cell hjn rfl; have t3 : wn.cell? ⟨jb, 3, none⟩ = some (.slice pn j.recs.length capn) := obj_cell hjn rfl; have hJ := hN'; have kJ := kN; clear hN' kN hRn hKn; replace hjn := Lib.hid hjn; replace hJ := Lib.hid hJ; replace kJ := Lib.hid kJ)
      | (go_at_call 70; refine (cZ.out _ hJ.out.disk).mono ?_; rintro e wn ⟨rfl, hRn, hKn⟩; have kN := kJ.out.trans (hKn.mono fun _ _ e => e ▸ hJ.out.pd); have hN' := hJ.out.disked hRn hKn; clear hJ kJ dJ; (try clear bJ zJ t1 t2 t3); obtain ⟨pn, capn, hjn, _, _⟩ := hN'.jobj; have dJ : wn.cell? ⟨jb, 0, none⟩ = some (.pointer (some ⟨db, 0, none⟩)) := obj_cell hjn rfl; have bJ : wn.cell? ⟨jb, 4, none⟩ = some (.bool j.broken) := obj_cell hjn rfl; have zJ := obj_free hjn; have t1 : wn.cell? ⟨jb, 1, none⟩ = some (sv j.text) := obj_cell hjn rfl; have t2 : wn.cell? ⟨jb, 2, none⟩ = some (.int .i64 (j.base : Nat)) := obj_cell hjn rfl; have t3 : wn.cell? ⟨jb, 3, none⟩ = some (.slice pn j.recs.length capn) := obj_cell hjn rfl; have hJ := hN'; have kJ := kN; clear hN' kN hRn hKn; replace hjn := Lib.hid hjn; replace hJ := Lib.hid hJ; replace kJ := Lib.hid kJ))
        go_ret
        rw [E.out]
        exact ⟨rfl, hJ.out, kJ.out⟩
      have b4 : (vA == 4) = false := by simpa using e4
      by_cases eB : vA = 0
      · subst eB
        by_cases eB : vS = 0
        · subst eB
          by_cases eB : vM = 0
          · subst eB
            by_cases eB : vZ = 0
            · subst eB
              have E : snapJ m j (bl s) = (0, mZ, ⟨bl s, N, [], false⟩) := by rw [hEq.out]; simp
              replace E := Lib.hid E
              go_wp2_with (first
      | (go_at_call 49; refine (cC.out _ hJ.out.disk).mono ?_; rintro e wn ⟨rfl, hRn, hKn⟩; have kN := kJ.out.trans (hKn.mono fun _ _ e => e ▸ hJ.out.pd); have hN' := hJ.out.disked hRn hKn; clear hJ kJ dJ; (try clear bJ zJ t1 t2 t3); obtain ⟨pn, capn, hjn, _, _⟩ := hN'.jobj; have dJ : wn.cell? ⟨jb, 0, none⟩ = some (.pointer (some ⟨db, 0, none⟩)) := obj_cell hjn rfl; have bJ : wn.cell? ⟨jb, 4, none⟩ = some (.bool j.broken) := obj_cell hjn rfl; have zJ := obj_free hjn; have t1 : wn.cell? ⟨jb, 1, none⟩ = some (sv j.text) := obj_cell hjn rfl; have t2 : wn.cell? ⟨jb, 2, none⟩ = some (.int .i64 (j.base : Nat)) := obj_cell hjn rfl; have t3 : wn.cell? ⟨jb, 3, none⟩ = some (.slice pn j.recs.length capn) := obj_cell hjn rfl; have hJ := hN'; have kJ := kN; clear hN' kN hRn hKn; replace hjn := Lib.hid hjn; replace hJ := Lib.hid hJ; replace kJ := Lib.hid kJ)
      | (go_at_call 12; refine (cA.out _ hJ.out.disk).mono ?_; rintro e wn ⟨rfl, hRn, hKn⟩; have kN := kJ.out.trans (hKn.mono fun _ _ e => e ▸ hJ.out.pd); have hN' := hJ.out.disked hRn hKn; clear hJ kJ dJ; (try clear bJ zJ t1 t2 t3); obtain ⟨pn, capn, hjn, _, _⟩ := hN'.jobj; have dJ : wn.cell? ⟨jb, 0, none⟩ = some (.pointer (some ⟨db, 0, none⟩)) := obj_cell hjn rfl; have bJ : wn.cell? ⟨jb, 4, none⟩ = some (.bool j.broken) := obj_cell hjn rfl; have zJ := obj_free hjn; have t1 : wn.cell? ⟨jb, 1, none⟩ = some (sv j.text) := obj_cell hjn rfl; have t2 : wn.cell? ⟨jb, 2, none⟩ = some (.int .i64 (j.base : Nat)) := obj_cell hjn rfl; have t3 : wn.cell? ⟨jb, 3, none⟩ = some (.slice pn j.recs.length capn) := obj_cell hjn rfl; have hJ := hN'; have kJ := kN; clear hN' kN hRn hKn; replace hjn := Lib.hid hjn; replace hJ := Lib.hid hJ; replace kJ := Lib.hid kJ)
      | (go_at_call 14; refine (cS.out _ hJ.out.disk).mono ?_; rintro e wn ⟨rfl, hRn, hKn⟩; have kN := kJ.out.trans (hKn.mono fun _ _ e => e ▸ hJ.out.pd); have hN' := hJ.out.disked hRn hKn; clear hJ kJ dJ; (try clear bJ zJ t1 t2 t3); obtain ⟨pn, capn, hjn, _, _⟩ := hN'.jobj; have dJ : wn.cell? ⟨jb, 0, none⟩ = some (.pointer (some ⟨db, 0, none⟩)) := obj_cell hjn rfl; have bJ : wn.cell? ⟨jb, 4, none⟩ = some (.bool j.broken) := obj_cell hjn rfl; have zJ := obj_free hjn; have t1 : wn.cell? ⟨jb, 1, none⟩ = some (sv j.text) := obj_cell hjn rfl; have t2 : wn.cell? ⟨jb, 2, none⟩ = some (.int .i64 (j.base : Nat)) := obj_cell hjn rfl; have t3 : wn.cell? ⟨jb, 3, none⟩ = some (.slice pn j.recs.length capn) := obj_cell hjn rfl; have hJ := hN'; have kJ := kN; clear hN' kN hRn hKn; replace hjn := Lib.hid hjn; replace hJ := Lib.hid hJ; replace kJ := Lib.hid kJ)
      | (go_at_call 69; refine (cM.out _ hJ.out.disk).mono ?_; rintro e wn ⟨rfl, hRn, hKn⟩; have kN := kJ.out.trans (hKn.mono fun _ _ e => e ▸ hJ.out.pd); have hN' := hJ.out.disked hRn hKn; clear hJ kJ dJ; (try clear bJ zJ t1 t2 t3); obtain ⟨pn, capn, hjn, _, _⟩ := hN'.jobj; have dJ : wn.cell? ⟨jb, 0, none⟩ = some (.pointer (some ⟨db, 0, none⟩)) := obj_cell hjn rfl; have bJ : wn.cell? ⟨jb, 4, none⟩ = some (.bool j.broken) := obj_cell hjn rfl; have zJ := obj_free hjn; have t1 : wn.cell? ⟨jb, 1, none⟩ = some (sv j.text) := obj_cell hjn rfl; have t2 : wn.cell? ⟨jb, 2, none⟩ = some (.int .i64 (j.base : Nat)) := obj_cell hjn rfl; have t3 : wn.cell? ⟨jb, 3, none⟩ = some (.slice pn j.recs.length capn) := obj_cell hjn rfl; have hJ := hN'; have kJ := kN; clear hN' kN hRn hKn; replace hjn := Lib.hid hjn; replace hJ := Lib.hid hJ; replace kJ := Lib.hid kJ)
      | (go_at_call 70; refine (cZ.out _ hJ.out.disk).mono ?_; rintro e wn ⟨rfl, hRn, hKn⟩; have kN := kJ.out.trans (hKn.mono fun _ _ e => e ▸ hJ.out.pd); have hN' := hJ.out.disked hRn hKn; clear hJ kJ dJ; (try clear bJ zJ t1 t2 t3); obtain ⟨pn, capn, hjn, _, _⟩ := hN'.jobj; have dJ : wn.cell? ⟨jb, 0, none⟩ = some (.pointer (some ⟨db, 0, none⟩)) := obj_cell hjn rfl; have bJ : wn.cell? ⟨jb, 4, none⟩ = some (.bool j.broken) := obj_cell hjn rfl; have zJ := obj_free hjn; have t1 : wn.cell? ⟨jb, 1, none⟩ = some (sv j.text) := obj_cell hjn rfl; have t2 : wn.cell? ⟨jb, 2, none⟩ = some (.int .i64 (j.base : Nat)) := obj_cell hjn rfl; have t3 : wn.cell? ⟨jb, 3, none⟩ = some (.slice pn j.recs.length capn) := obj_cell hjn rfl; have hJ := hN'; have kJ := kN; clear hN' kN hRn hKn; replace hjn := Lib.hid hjn; replace hJ := Lib.hid hJ; replace kJ := Lib.hid kJ))
              go_ret
              rw [E.out]
              exact ⟨rfl, hJ.out.anew hbr, ((kJ.out.setCell (.inl hJ.out.pj) _).setCell (.inl hJ.out.pj) _).setCell (.inl hJ.out.pj) _⟩
            · have E : snapJ m j (bl s) = (vZ, mZ, { j with broken := true }) := by rw [hEq.out]; simp [eB]
              have bv : (vZ == 0) = false := by simpa using eB
              have bw : (vZ != 0) = true := by simpa using eB
              replace E := Lib.hid E
              skip
              go_wp2_with (first
      | (go_at_call 49; refine (cC.out _ hJ.out.disk).mono ?_; rintro e wn ⟨rfl, hRn, hKn⟩; have kN := kJ.out.trans (hKn.mono fun _ _ e => e ▸ hJ.out.pd); have hN' := hJ.out.disked hRn hKn; clear hJ kJ dJ; (try clear bJ zJ t1 t2 t3); obtain ⟨pn, capn, hjn, _, _⟩ := hN'.jobj; have dJ : wn.cell? ⟨jb, 0, none⟩ = some (.pointer (some ⟨db, 0, none⟩)) := obj_cell hjn rfl; have bJ : wn.cell? ⟨jb, 4, none⟩ = some (.bool j.broken) := obj_cell hjn rfl; have zJ := obj_free hjn; have t1 : wn.cell? ⟨jb, 1, none⟩ = some (sv j.text) := obj_cell hjn rfl; have t2 : wn.cell? ⟨jb, 2, none⟩ = some (.int .i64 (j.base : Nat)) := obj_cell hjn rfl; have t3 : wn.cell? ⟨jb, 3, none⟩ = some (.slice pn j.recs.length capn) := obj_cell hjn rfl; have hJ := hN'; have kJ := kN; clear hN' kN hRn hKn; replace hjn := Lib.hid hjn; replace hJ := Lib.hid hJ; replace kJ := Lib.hid kJ)
      | (go_at_call 12; refine (cA.out _ hJ.out.disk).mono ?_; rintro e wn ⟨rfl, hRn, hKn⟩; have kN := kJ.out.trans (hKn.mono fun _ _ e => e ▸ hJ.out.pd); have hN' := hJ.out.disked hRn hKn; clear hJ kJ dJ; (try clear bJ zJ t1 t2 t3); obtain ⟨pn, capn, hjn, _, _⟩ := hN'.jobj; have dJ : wn.cell? ⟨jb, 0, none⟩ = some (.pointer (some ⟨db, 0, none⟩)) := obj_cell hjn rfl; have bJ : wn.cell? ⟨jb, 4, none⟩ = some (.bool j.broken) := obj_cell hjn rfl; have zJ := obj_free hjn; have t1 : wn.cell? ⟨jb, 1, none⟩ = some (sv j.text) := obj_cell hjn rfl; have t2 : wn.cell? ⟨jb, 2, none⟩ = some (.int .i64 (j.base : Nat)) := obj_cell hjn rfl; have t3 : wn.cell? ⟨jb, 3, none⟩ = some (.slice pn j.recs.length capn) := obj_cell hjn rfl; have hJ := hN'; have kJ := kN; clear hN' kN hRn hKn; replace hjn := Lib.hid hjn; replace hJ := Lib.hid hJ; replace kJ := Lib.hid kJ)
      | (go_at_call 14; refine (cS.out _ hJ.out.disk).mono ?_; rintro e wn ⟨rfl, hRn, hKn⟩; have kN := kJ.out.trans (hKn.mono fun _ _ e => e ▸ hJ.out.pd); have hN' := hJ.out.disked hRn hKn; clear hJ kJ dJ; (try clear bJ zJ t1 t2 t3); obtain ⟨pn, capn, hjn, _, _⟩ := hN'.jobj; have dJ : wn.cell? ⟨jb, 0, none⟩ = some (.pointer (some ⟨db, 0, none⟩)) := obj_cell hjn rfl; have bJ : wn.cell? ⟨jb, 4, none⟩ = some (.bool j.broken) := obj_cell hjn rfl; have zJ := obj_free hjn; have t1 : wn.cell? ⟨jb, 1, none⟩ = some (sv j.text) := obj_cell hjn rfl; have t2 : wn.cell? ⟨jb, 2, none⟩ = some (.int .i64 (j.base : Nat)) := obj_cell hjn rfl; have t3 : wn.cell? ⟨jb, 3, none⟩ = some (.slice pn j.recs.length capn) := obj_cell hjn rfl; have hJ := hN'; have kJ := kN; clear hN' kN hRn hKn; replace hjn := Lib.hid hjn; replace hJ := Lib.hid hJ; replace kJ := Lib.hid kJ)
      | (go_at_call 69; refine (cM.out _ hJ.out.disk).mono ?_; rintro e wn ⟨rfl, hRn, hKn⟩; have kN := kJ.out.trans (hKn.mono fun _ _ e => e ▸ hJ.out.pd); have hN' := hJ.out.disked hRn hKn; clear hJ kJ dJ; (try clear bJ zJ t1 t2 t3); obtain ⟨pn, capn, hjn, _, _⟩ := hN'.jobj; have dJ : wn.cell? ⟨jb, 0, none⟩ = some (.pointer (some ⟨db, 0, none⟩)) := obj_cell hjn rfl; have bJ : wn.cell? ⟨jb, 4, none⟩ = some (.bool j.broken) := obj_cell hjn rfl; have zJ := obj_free hjn; have t1 : wn.cell? ⟨jb, 1, none⟩ = some (sv j.text) := obj_cell hjn rfl; have t2 : wn.cell? ⟨jb, 2, none⟩ = some (.int .i64 (j.base : Nat)) := obj_cell hjn rfl; have t3 : wn.cell? ⟨jb, 3, none⟩ = some (.slice pn j.recs.length capn) := obj_cell hjn rfl; have hJ := hN'; have kJ := kN; clear hN' kN hRn hKn; replace hjn := Lib.hid hjn; replace hJ := Lib.hid hJ; replace kJ := Lib.hid kJ)
      | (go_at_call 70; refine (cZ.out _ hJ.out.disk).mono ?_; rintro e wn ⟨rfl, hRn, hKn⟩; have kN := kJ.out.trans (hKn.mono fun _ _ e => e ▸ hJ.out.pd); have hN' := hJ.out.disked hRn hKn; clear hJ kJ dJ; (try clear bJ zJ t1 t2 t3); obtain ⟨pn, capn, hjn, _, _⟩ := hN'.jobj; have dJ : wn.cell? ⟨jb, 0, none⟩ = some (.pointer (some ⟨db, 0, none⟩)) := obj_cell hjn rfl; have bJ : wn.cell? ⟨jb, 4, none⟩ = some (.bool j.broken) := obj_cell hjn rfl; have zJ := obj_free hjn; have t1 : wn.cell? ⟨jb, 1, none⟩ = some (sv j.text) := obj_cell hjn rfl; have t2 : wn.cell? ⟨jb, 2, none⟩ = some (.int .i64 (j.base : Nat)) := obj_cell hjn rfl; have t3 : wn.cell? ⟨jb, 3, none⟩ = some (.slice pn j.recs.length capn) := obj_cell hjn rfl; have hJ := hN'; have kJ := kN; clear hN' kN hRn hKn; replace hjn := Lib.hid hjn; replace hJ := Lib.hid hJ; replace kJ := Lib.hid kJ))
              go_ret
              rw [E.out]
              exact ⟨rfl, hJ.out.break, kJ.out.setCell (.inl hJ.out.pj) _⟩
          · have E : snapJ m j (bl s) = (vM, mM, { j with broken := true }) := by rw [hEq.out]; simp [eB]
            have bv : (vM == 0) = false := by simpa using eB
            have bw : (vM != 0) = true := by simpa using eB
            replace E := Lib.hid E
            skip
            go_wp2_with (first
      | (go_at_call 49; refine (cC.out _ hJ.out.disk).mono ?_; rintro e wn ⟨rfl, hRn, hKn⟩; have kN := kJ.out.trans (hKn.mono fun _ _ e => e ▸ hJ.out.pd); have hN' := hJ.out.disked hRn hKn; clear hJ kJ dJ; (try clear bJ zJ t1 t2 t3); obtain ⟨pn, capn, hjn, _, _⟩ := hN'.jobj; have dJ : wn.cell? ⟨jb, 0, none⟩ = some (.pointer (some ⟨db, 0, none⟩)) := obj_cell hjn rfl; have bJ : wn.cell? ⟨jb, 4, none⟩ = some (.bool j.broken) := obj_cell hjn rfl; have zJ := obj_free hjn; have t1 : wn.cell? ⟨jb, 1, none⟩ = some (sv j.text) := obj_cell hjn rfl; have t2 : wn.cell? ⟨jb, 2, none⟩ = some (.int .i64 (j.base : Nat)) := obj_cell hjn rfl; have t3 : wn.cell? ⟨jb, 3, none⟩ = some (.slice pn j.recs.length capn) := obj_cell hjn rfl; have hJ := hN'; have kJ := kN; clear hN' kN hRn hKn; replace hjn := Lib.hid hjn; replace hJ := Lib.hid hJ; replace kJ := Lib.hid kJ)
      | (go_at_call 12; refine (cA.out _ hJ.out.disk).mono ?_; rintro e wn ⟨rfl, hRn, hKn⟩; have kN := kJ.out.trans (hKn.mono fun _ _ e => e ▸ hJ.out.pd); have hN' := hJ.out.disked hRn hKn; clear hJ kJ dJ; (try clear bJ zJ t1 t2 t3); obtain ⟨pn, capn, hjn, _, _⟩ := hN'.jobj; have dJ : wn.cell? ⟨jb, 0, none⟩ = some (.pointer (some ⟨db, 0, none⟩)) := obj_cell hjn rfl; have bJ : wn.cell? ⟨jb, 4, none⟩ = some (.bool j.broken) := obj_cell hjn rfl; have zJ := obj_free hjn; have t1 : wn.cell? ⟨jb, 1, none⟩ = some (sv j.text) := obj_cell hjn rfl; have t2 : wn.cell? ⟨jb, 2, none⟩ = some (.int .i64 (j.base : Nat)) := obj_cell hjn rfl; have t3 : wn.cell? ⟨jb, 3, none⟩ = some (.slice pn j.recs.length capn) := obj_cell hjn rfl; have hJ := hN'; have kJ := kN; clear hN' kN hRn hKn; replace hjn := Lib.hid hjn; replace hJ := Lib.hid hJ; replace kJ := Lib.hid kJ)
      | (go_at_call 14; refine (cS.out _ hJ.out.disk).mono ?_; rintro e wn ⟨rfl, hRn, hKn⟩; have kN := kJ.out.trans (hKn.mono fun _ _ e => e ▸ hJ.out.pd); have hN' := hJ.out.disked hRn hKn; clear hJ kJ dJ; (try clear bJ zJ t1 t2 t3); obtain ⟨pn, capn, hjn, _, _⟩ := hN'.jobj; have dJ : wn.cell? ⟨jb, 0, none⟩ = some (.pointer (some ⟨db, 0, none⟩)) := obj_cell hjn rfl; have bJ : wn.cell? ⟨jb, 4, none⟩ = some (.bool j.broken) := obj_cell hjn rfl; have zJ := obj_free hjn; have t1 : wn.cell? ⟨jb, 1, none⟩ = some (sv j.text) := obj_cell hjn rfl; have t2 : wn.cell? ⟨jb, 2, none⟩ = some (.int .i64 (j.base : Nat)) := obj_cell hjn rfl; have t3 : wn.cell? ⟨jb, 3, none⟩ = some (.slice pn j.recs.length capn) := obj_cell hjn rfl; have hJ := hN'; have kJ := kN; clear hN' kN hRn hKn; replace hjn := Lib.hid hjn; replace hJ := Lib.hid hJ; replace kJ := Lib.hid kJ)
      | (go_at_call 69; refine (cM.out _ hJ.out.disk).mono ?_; rintro e wn ⟨rfl, hRn, hKn⟩; have kN := kJ.out.trans (hKn.mono fun _ _ e => e ▸ hJ.out.pd); have hN' := hJ.out.disked hRn hKn; clear hJ kJ dJ; (try clear bJ zJ t1 t2 t3); obtain ⟨pn, capn, hjn, _, _⟩ := hN'.jobj; have dJ : wn.cell? ⟨jb, 0, none⟩ = some (.pointer (some ⟨db, 0, none⟩)) := obj_cell hjn rfl; have bJ : wn.cell? ⟨jb, 4, none⟩ = some (.bool j.broken) := obj_cell hjn rfl; have zJ := obj_free hjn; have t1 : wn.cell? ⟨jb, 1, none⟩ = some (sv j.text) := obj_cell hjn rfl; have t2 : wn.cell? ⟨jb, 2, none⟩ = some (.int .i64 (j.base : Nat)) := obj_cell hjn rfl; have t3 : wn.cell? ⟨jb, 3, none⟩ = some (.slice pn j.recs.length capn) := obj_cell hjn rfl; have hJ := hN'; have kJ := kN; clear hN' kN hRn hKn; replace hjn := Lib.hid hjn; replace hJ := Lib.hid hJ; replace kJ := Lib.hid kJ)
      | (go_at_call 70; refine (cZ.out _ hJ.out.disk).mono ?_; rintro e wn ⟨rfl, hRn, hKn⟩; have kN := kJ.out.trans (hKn.mono fun _ _ e => e ▸ hJ.out.pd); have hN' := hJ.out.disked hRn hKn; clear hJ kJ dJ; (try clear bJ zJ t1 t2 t3); obtain ⟨pn, capn, hjn, _, _⟩ := hN'.jobj; have dJ : wn.cell? ⟨jb, 0, none⟩ = some (.pointer (some ⟨db, 0, none⟩)) := obj_cell hjn rfl; have bJ : wn.cell? ⟨jb, 4, none⟩ = some (.bool j.broken) := obj_cell hjn rfl; have zJ := obj_free hjn; have t1 : wn.cell? ⟨jb, 1, none⟩ = some (sv j.text) := obj_cell hjn rfl; have t2 : wn.cell? ⟨jb, 2, none⟩ = some (.int .i64 (j.base : Nat)) := obj_cell hjn rfl; have t3 : wn.cell? ⟨jb, 3, none⟩ = some (.slice pn j.recs.length capn) := obj_cell hjn rfl; have hJ := hN'; have kJ := kN; clear hN' kN hRn hKn; replace hjn := Lib.hid hjn; replace hJ := Lib.hid hJ; replace kJ := Lib.hid kJ))
            go_ret
            rw [E.out]
            exact ⟨rfl, hJ.out.break, kJ.out.setCell (.inl hJ.out.pj) _⟩
        · have E : snapJ m j (bl s) = (vS, mS, { j with broken := true }) := by rw [hEq.out]; simp [eB]
          have bv : (vS == 0) = false := by simpa using eB
          have bw : (vS != 0) = true := by simpa using eB
          replace E := Lib.hid E
          skip
          go_wp2_with (first
      | (go_at_call 49; refine (cC.out _ hJ.out.disk).mono ?_; rintro e wn ⟨rfl, hRn, hKn⟩; have kN := kJ.out.trans (hKn.mono fun _ _ e => e ▸ hJ.out.pd); have hN' := hJ.out.disked hRn hKn; clear hJ kJ dJ; (try clear bJ zJ t1 t2 t3); obtain ⟨pn, capn, hjn, _, _⟩ := hN'.jobj; have dJ : wn.cell? ⟨jb, 0, none⟩ = some (.pointer (some ⟨db, 0, none⟩)) := obj_cell hjn rfl; have bJ : wn.cell? ⟨jb, 4, none⟩ = some (.bool j.broken) := obj_cell hjn rfl; have zJ := obj_free hjn; have t1 : wn.cell? ⟨jb, 1, none⟩ = some (sv j.text) := obj_cell hjn rfl; have t2 : wn.cell? ⟨jb, 2, none⟩ = some (.int .i64 (j.base : Nat)) := obj_cell hjn rfl; have t3 : wn.cell? ⟨jb, 3, none⟩ = some (.slice pn j.recs.length capn) := obj_cell hjn rfl; have hJ := hN'; have kJ := kN; clear hN' kN hRn hKn; replace hjn := Lib.hid hjn; replace hJ := Lib.hid hJ; replace kJ := Lib.hid kJ)
      | (go_at_call 12; refine (cA.out _ hJ.out.disk).mono ?_; rintro e wn ⟨rfl, hRn, hKn⟩; have kN := kJ.out.trans (hKn.mono fun _ _ e => e ▸ hJ.out.pd); have hN' := hJ.out.disked hRn hKn; clear hJ kJ dJ; (try clear bJ zJ t1 t2 t3); obtain ⟨pn, capn, hjn, _, _⟩ := hN'.jobj; have dJ : wn.cell? ⟨jb, 0, none⟩ = some (.pointer (some ⟨db, 0, none⟩)) := obj_cell hjn rfl; have bJ : wn.cell? ⟨jb, 4, none⟩ = some (.bool j.broken) := obj_cell hjn rfl; have zJ := obj_free hjn; have t1 : wn.cell? ⟨jb, 1, none⟩ = some (sv j.text) := obj_cell hjn rfl; have t2 : wn.cell? ⟨jb, 2, none⟩ = some (.int .i64 (j.base : Nat)) := obj_cell hjn rfl; have t3 : wn.cell? ⟨jb, 3, none⟩ = some (.slice pn j.recs.length capn) := obj_cell hjn rfl; have hJ := hN'; have kJ := kN; clear hN' kN hRn hKn; replace hjn := Lib.hid hjn; replace hJ := Lib.hid hJ; replace kJ := Lib.hid kJ)
      | (go_at_call 14; refine (cS.out _ hJ.out.disk).mono ?_; rintro e wn ⟨rfl, hRn, hKn⟩; have kN := kJ.out.trans (hKn.mono fun _ _ e => e ▸ hJ.out.pd); have hN' := hJ.out.disked hRn hKn; clear hJ kJ dJ; (try clear bJ zJ t1 t2 t3); obtain ⟨pn, capn, hjn, _, _⟩ := hN'.jobj; have dJ : wn.cell? ⟨jb, 0, none⟩ = some (.pointer (some ⟨db, 0, none⟩)) := obj_cell hjn rfl; have bJ : wn.cell? ⟨jb, 4, none⟩ = some (.bool j.broken) := obj_cell hjn rfl; have zJ := obj_free hjn; have t1 : wn.cell? ⟨jb, 1, none⟩ = some (sv j.text) := obj_cell hjn rfl; have t2 : wn.cell? ⟨jb, 2, none⟩ = some (.int .i64 (j.base : Nat)) := obj_cell hjn rfl; have t3 : wn.cell? ⟨jb, 3, none⟩ = some (.slice pn j.recs.length capn) := obj_cell hjn rfl; have hJ := hN'; have kJ := kN; clear hN' kN hRn hKn; replace hjn := Lib.hid hjn; replace hJ := Lib.hid hJ; replace kJ := Lib.hid kJ)
      | (go_at_call 69; refine (cM.out _ hJ.out.disk).mono ?_; rintro e wn ⟨rfl, hRn, hKn⟩; have kN := kJ.out.trans (hKn.mono fun _ _ e => e ▸ hJ.out.pd); have hN' := hJ.out.disked hRn hKn; clear hJ kJ dJ; (try clear bJ zJ t1 t2 t3); obtain ⟨pn, capn, hjn, _, _⟩ := hN'.jobj; have dJ : wn.cell? ⟨jb, 0, none⟩ = some (.pointer (some ⟨db, 0, none⟩)) := obj_cell hjn rfl; have bJ : wn.cell? ⟨jb, 4, none⟩ = some (.bool j.broken) := obj_cell hjn rfl; have zJ := obj_free hjn; have t1 : wn.cell? ⟨jb, 1, none⟩ = some (sv j.text) := obj_cell hjn rfl; have t2 : wn.cell? ⟨jb, 2, none⟩ = some (.int .i64 (j.base : Nat)) := obj_cell hjn rfl; have t3 : wn.cell? ⟨jb, 3, none⟩ = some (.slice pn j.recs.length capn) := obj_cell hjn rfl; have hJ := hN'; have kJ := kN; clear hN' kN hRn hKn; replace hjn := Lib.hid hjn; replace hJ := Lib.hid hJ; replace kJ := Lib.hid kJ)
      | (go_at_call 70; refine (cZ.out _ hJ.out.disk).mono ?_; rintro e wn ⟨rfl, hRn, hKn⟩; have kN := kJ.out.trans (hKn.mono fun _ _ e => e ▸ hJ.out.pd); have hN' := hJ.out.disked hRn hKn; clear hJ kJ dJ; (try clear bJ zJ t1 t2 t3); obtain ⟨pn, capn, hjn, _, _⟩ := hN'.jobj; have dJ : wn.cell? ⟨jb, 0, none⟩ = some (.pointer (some ⟨db, 0, none⟩)) := obj_cell hjn rfl; have bJ : wn.cell? ⟨jb, 4, none⟩ = some (.bool j.broken) := obj_cell hjn rfl; have zJ := obj_free hjn; have t1 : wn.cell? ⟨jb, 1, none⟩ = some (sv j.text) := obj_cell hjn rfl; have t2 : wn.cell? ⟨jb, 2, none⟩ = some (.int .i64 (j.base : Nat)) := obj_cell hjn rfl; have t3 : wn.cell? ⟨jb, 3, none⟩ = some (.slice pn j.recs.length capn) := obj_cell hjn rfl; have hJ := hN'; have kJ := kN; clear hN' kN hRn hKn; replace hjn := Lib.hid hjn; replace hJ := Lib.hid hJ; replace kJ := Lib.hid kJ))
          go_ret
          rw [E.out]
          exact ⟨rfl, hJ.out.break, kJ.out.setCell (.inl hJ.out.pj) _⟩
      · have E : snapJ m j (bl s) = (vA, mA, { j with broken := true }) := by rw [hEq.out]; simp [eB, e4]
        have bv : (vA == 0) = false := by simpa using eB
        have bw : (vA != 0) = true := by simpa using eB
        replace E := Lib.hid E
        skip
        go_wp2_with (first
      | (go_at_call 49; refine (cC.out _ hJ.out.disk).mono ?_; rintro e wn ⟨rfl, hRn, hKn⟩; have kN := kJ.out.trans (hKn.mono fun _ _ e => e ▸ hJ.out.pd); have hN' := hJ.out.disked hRn hKn; clear hJ kJ dJ; (try clear bJ zJ t1 t2 t3); obtain ⟨pn, capn, hjn, _, _⟩ := hN'.jobj; have dJ : wn.cell? ⟨jb, 0, none⟩ = some (.pointer (some ⟨db, 0, none⟩)) := obj_cell hjn rfl; have bJ : wn.cell? ⟨jb, 4, none⟩ = some (.bool j.broken) := obj_cell hjn rfl; have zJ := obj_free hjn; have t1 : wn.cell? ⟨jb, 1, none⟩ = some (sv j.text) := obj_cell hjn rfl; have t2 : wn.cell? ⟨jb, 2, none⟩ = some (.int .i64 (j.base : Nat)) := obj_cell hjn rfl; have t3 : wn.cell? ⟨jb, 3, none⟩ = some (.slice pn j.recs.length capn) := obj_cell hjn rfl; have hJ := hN'; have kJ := kN; clear hN' kN hRn hKn; replace hjn := Lib.hid hjn; replace hJ := Lib.hid hJ; replace kJ := Lib.hid kJ)
      | (go_at_call 12; refine (cA.out _ hJ.out.disk).mono ?_; rintro e wn ⟨rfl, hRn, hKn⟩; have kN := kJ.out.trans (hKn.mono fun _ _ e => e ▸ hJ.out.pd); have hN' := hJ.out.disked hRn hKn; clear hJ kJ dJ; (try clear bJ zJ t1 t2 t3); obtain ⟨pn, capn, hjn, _, _⟩ := hN'.jobj; have dJ : wn.cell? ⟨jb, 0, none⟩ = some (.pointer (some ⟨db, 0, none⟩)) := obj_cell hjn rfl; have bJ : wn.cell? ⟨jb, 4, none⟩ = some (.bool j.broken) := obj_cell hjn rfl; have zJ := obj_free hjn; have t1 : wn.cell? ⟨jb, 1, none⟩ = some (sv j.text) := obj_cell hjn rfl; have t2 : wn.cell? ⟨jb, 2, none⟩ = some (.int .i64 (j.base : Nat)) := obj_cell hjn rfl; have t3 : wn.cell? ⟨jb, 3, none⟩ = some (.slice pn j.recs.length capn) := obj_cell hjn rfl; have hJ := hN'; have kJ := kN; clear hN' kN hRn hKn; replace hjn := Lib.hid hjn; replace hJ := Lib.hid hJ; replace kJ := Lib.hid kJ)
      | (go_at_call 14; refine (cS.out _ hJ.out.disk).mono ?_; rintro e wn ⟨rfl, hRn, hKn⟩; have kN := kJ.out.trans (hKn.mono fun _ _ e => e ▸ hJ.out.pd); have hN' := hJ.out.disked hRn hKn; clear hJ kJ dJ; (try clear bJ zJ t1 t2 t3); obtain ⟨pn, capn, hjn, _, _⟩ := hN'.jobj; have dJ : wn.cell? ⟨jb, 0, none⟩ = some (.pointer (some ⟨db, 0, none⟩)) := obj_cell hjn rfl; have bJ : wn.cell? ⟨jb, 4, none⟩ = some (.bool j.broken) := obj_cell hjn rfl; have zJ := obj_free hjn; have t1 : wn.cell? ⟨jb, 1, none⟩ = some (sv j.text) := obj_cell hjn rfl; have t2 : wn.cell? ⟨jb, 2, none⟩ = some (.int .i64 (j.base : Nat)) := obj_cell hjn rfl; have t3 : wn.cell? ⟨jb, 3, none⟩ = some (.slice pn j.recs.length capn) := obj_cell hjn rfl; have hJ := hN'; have kJ := kN; clear hN' kN hRn hKn; replace hjn := Lib.hid hjn; replace hJ := Lib.hid hJ; replace kJ := Lib.hid kJ)
      | (go_at_call 69; refine (cM.out _ hJ.out.disk).mono ?_; rintro e wn ⟨rfl, hRn, hKn⟩; have kN := kJ.out.trans (hKn.mono fun _ _ e => e ▸ hJ.out.pd); have hN' := hJ.out.disked hRn hKn; clear hJ kJ dJ; (try clear bJ zJ t1 t2 t3); obtain ⟨pn, capn, hjn, _, _⟩ := hN'.jobj; have dJ : wn.cell? ⟨jb, 0, none⟩ = some (.pointer (some ⟨db, 0, none⟩)) := obj_cell hjn rfl; have bJ : wn.cell? ⟨jb, 4, none⟩ = some (.bool j.broken) := obj_cell hjn rfl; have zJ := obj_free hjn; have t1 : wn.cell? ⟨jb, 1, none⟩ = some (sv j.text) := obj_cell hjn rfl; have t2 : wn.cell? ⟨jb, 2, none⟩ = some (.int .i64 (j.base : Nat)) := obj_cell hjn rfl; have t3 : wn.cell? ⟨jb, 3, none⟩ = some (.slice pn j.recs.length capn) := obj_cell hjn rfl; have hJ := hN'; have kJ := kN; clear hN' kN hRn hKn; replace hjn := Lib.hid hjn; replace hJ := Lib.hid hJ; replace kJ := Lib.hid kJ)
      | (go_at_call 70; refine (cZ.out _ hJ.out.disk).mono ?_; rintro e wn ⟨rfl, hRn, hKn⟩; have kN := kJ.out.trans (hKn.mono fun _ _ e => e ▸ hJ.out.pd); have hN' := hJ.out.disked hRn hKn; clear hJ kJ dJ; (try clear bJ zJ t1 t2 t3); obtain ⟨pn, capn, hjn, _, _⟩ := hN'.jobj; have dJ : wn.cell? ⟨jb, 0, none⟩ = some (.pointer (some ⟨db, 0, none⟩)) := obj_cell hjn rfl; have bJ : wn.cell? ⟨jb, 4, none⟩ = some (.bool j.broken) := obj_cell hjn rfl; have zJ := obj_free hjn; have t1 : wn.cell? ⟨jb, 1, none⟩ = some (sv j.text) := obj_cell hjn rfl; have t2 : wn.cell? ⟨jb, 2, none⟩ = some (.int .i64 (j.base : Nat)) := obj_cell hjn rfl; have t3 : wn.cell? ⟨jb, 3, none⟩ = some (.slice pn j.recs.length capn) := obj_cell hjn rfl; have hJ := hN'; have kJ := kN; clear hN' kN hRn hKn; replace hjn := Lib.hid hjn; replace hJ := Lib.hid hJ; replace kJ := Lib.hid kJ))
        go_ret
        rw [E.out]
        exact ⟨rfl, hJ.out.break, kJ.out.setCell (.inl hJ.out.pj) _⟩
    · have E : snapJ m j (bl s) = (vc, mc, { j with broken := true }) := by rw [hEq.out]; simp [eB]
      have bv : (vc == 0) = false := by simpa using eB
      have bw : (vc != 0) = true := by simpa using eB
      replace E := Lib.hid E
      skip
      go_wp2_with (first
      | (go_at_call 49; refine (cC.out _ hJ.out.disk).mono ?_; rintro e wn ⟨rfl, hRn, hKn⟩; have kN := kJ.out.trans (hKn.mono fun _ _ e => e ▸ hJ.out.pd); have hN' := hJ.out.disked hRn hKn; clear hJ kJ dJ; (try clear bJ zJ t1 t2 t3); obtain ⟨pn, capn, hjn, _, _⟩ := hN'.jobj; have dJ : wn.cell? ⟨jb, 0, none⟩ = some (.pointer (some ⟨db, 0, none⟩)) := obj_cell hjn rfl; have bJ : wn.cell? ⟨jb, 4, none⟩ = some (.bool j.broken) := obj_cell hjn rfl; have zJ := obj_free hjn; have t1 : wn.cell? ⟨jb, 1, none⟩ = some (sv j.text) := obj_cell hjn rfl; have t2 : wn.cell? ⟨jb, 2, none⟩ = some (.int .i64 (j.base : Nat)) := obj_cell hjn rfl; have t3 : wn.cell? ⟨jb, 3, none⟩ = some (.slice pn j.recs.length capn) := obj_cell hjn rfl; have hJ := hN'; have kJ := kN; clear hN' kN hRn hKn; replace hjn := Lib.hid hjn; replace hJ := Lib.hid hJ; replace kJ := Lib.hid kJ)
      | (go_at_call 12; refine (cA.out _ hJ.out.disk).mono ?_; rintro e wn ⟨rfl, hRn, hKn⟩; have kN := kJ.out.trans (hKn.mono fun _ _ e => e ▸ hJ.out.pd); have hN' := hJ.out.disked hRn hKn; clear hJ kJ dJ; (try clear bJ zJ t1 t2 t3); obtain ⟨pn, capn, hjn, _, _⟩ := hN'.jobj; have dJ : wn.cell? ⟨jb, 0, none⟩ = some (.pointer (some ⟨db, 0, none⟩)) := obj_cell hjn rfl; have bJ : wn.cell? ⟨jb, 4, none⟩ = some (.bool j.broken) := obj_cell hjn rfl; have zJ := obj_free hjn; have t1 : wn.cell? ⟨jb, 1, none⟩ = some (sv j.text) := obj_cell hjn rfl; have t2 : wn.cell? ⟨jb, 2, none⟩ = some (.int .i64 (j.base : Nat)) := obj_cell hjn rfl; have t3 : wn.cell? ⟨jb, 3, none⟩ = some (.slice pn j.recs.length capn) := obj_cell hjn rfl; have hJ := hN'; have kJ := kN; clear hN' kN hRn hKn; replace hjn := Lib.hid hjn; replace hJ := Lib.hid hJ; replace kJ := Lib.hid kJ)
      | (go_at_call 14; refine (cS.out _ hJ.out.disk).mono ?_; rintro e wn ⟨rfl, hRn, hKn⟩; have kN := kJ.out.trans (hKn.mono fun _ _ e => e ▸ hJ.out.pd); have hN' := hJ.out.disked hRn hKn; clear hJ kJ dJ; (try clear bJ zJ t1 t2 t3); obtain ⟨pn, capn, hjn, _, _⟩ := hN'.jobj; have dJ : wn.cell? ⟨jb, 0, none⟩ = some (.pointer (some ⟨db, 0, none⟩)) := obj_cell hjn rfl; have bJ : wn.cell? ⟨jb, 4, none⟩ = some (.bool j.broken) := obj_cell hjn rfl; have zJ := obj_free hjn; have t1 : wn.cell? ⟨jb, 1, none⟩ = some (sv j.text) := obj_cell hjn rfl; have t2 : wn.cell? ⟨jb, 2, none⟩ = some (.int .i64 (j.base : Nat)) := obj_cell hjn rfl; have t3 : wn.cell? ⟨jb, 3, none⟩ = some (.slice pn j.recs.length capn) := obj_cell hjn rfl; have hJ := hN'; have kJ := kN; clear hN' kN hRn hKn; replace hjn := Lib.hid hjn; replace hJ := Lib.hid hJ; replace kJ := Lib.hid kJ)
      | (go_at_call 69; refine (cM.out _ hJ.out.disk).mono ?_; rintro e wn ⟨rfl, hRn, hKn⟩; have kN := kJ.out.trans (hKn.mono fun _ _ e => e ▸ hJ.out.pd); have hN' := hJ.out.disked hRn hKn; clear hJ kJ dJ; (try clear bJ zJ t1 t2 t3); obtain ⟨pn, capn, hjn, _, _⟩ := hN'.jobj; have dJ : wn.cell? ⟨jb, 0, none⟩ = some (.pointer (some ⟨db, 0, none⟩)) := obj_cell hjn rfl; have bJ : wn.cell? ⟨jb, 4, none⟩ = some (.bool j.broken) := obj_cell hjn rfl; have zJ := obj_free hjn; have t1 : wn.cell? ⟨jb, 1, none⟩ = some (sv j.text) := obj_cell hjn rfl; have t2 : wn.cell? ⟨jb, 2, none⟩ = some (.int .i64 (j.base : Nat)) := obj_cell hjn rfl; have t3 : wn.cell? ⟨jb, 3, none⟩ = some (.slice pn j.recs.length capn) := obj_cell hjn rfl; have hJ := hN'; have kJ := kN; clear hN' kN hRn hKn; replace hjn := Lib.hid hjn; replace hJ := Lib.hid hJ; replace kJ := Lib.hid kJ)
      | (go_at_call 70; refine (cZ.out _ hJ.out.disk).mono ?_; rintro e wn ⟨rfl, hRn, hKn⟩; have kN := kJ.out.trans (hKn.mono fun _ _ e => e ▸ hJ.out.pd); have hN' := hJ.out.disked hRn hKn; clear hJ kJ dJ; (try clear bJ zJ t1 t2 t3); obtain ⟨pn, capn, hjn, _, _⟩ := hN'.jobj; have dJ : wn.cell? ⟨jb, 0, none⟩ = some (.pointer (some ⟨db, 0, none⟩)) := obj_cell hjn rfl; have bJ : wn.cell? ⟨jb, 4, none⟩ = some (.bool j.broken) := obj_cell hjn rfl; have zJ := obj_free hjn; have t1 : wn.cell? ⟨jb, 1, none⟩ = some (sv j.text) := obj_cell hjn rfl; have t2 : wn.cell? ⟨jb, 2, none⟩ = some (.int .i64 (j.base : Nat)) := obj_cell hjn rfl; have t3 : wn.cell? ⟨jb, 3, none⟩ = some (.slice pn j.recs.length capn) := obj_cell hjn rfl; have hJ := hN'; have kJ := kN; clear hN' kN hRn hKn; replace hjn := Lib.hid hjn; replace hJ := Lib.hid hJ; replace kJ := Lib.hid kJ))
      go_ret
      rw [E.out]
      exact ⟨rfl, hJ.out.break, kJ.out.setCell (.inl hJ.out.pj) _⟩
end Go.Proofs.Ytidofjjghbhaaaa
