/- PlanTells' walk. -/
import Derived.Test.YthocnlalahknjaaGreatZB
import Derived.Test.YthocnlalahknjaaGreatQWel
namespace Go.Proofs.YthocnlalahknjaaGreat.Dd
open Go.RowKit Go.Maps
set_option linter.unusedVariables false

set_option maxHeartbeats 8000000 in
set_option maxRecDepth 100000 in
theorem planTells_any (pn : Option Addr) (M cn : Nat) (rows : List (List Int)) (pz : Option Addr) (nz cz : Nat) (zs : List Int) (pd : Option Addr) (n cd : Nat) (l : List Du) (pp : Option Addr) (P cp : Nat) (prows : List (List Int)) (now : Int) (w : World)
    (hN : rows.length = M ∧ NSeq w (.slice pn M cn) rows ∧ (∀ r ∈ rows, r.length ≤ 4611686018427387904) ∧ M ≤ 4611686018427387904) (hZ : Seq64 w pz nz zs)
    (hD : l.length = n ∧ USeq w (.slice pd n cd) l ∧ (∀ d ∈ l, DuIn d) ∧ n ≤ 4611686018427387904)
    (hP : prows.length = P ∧ NSeq w (.slice pp P cp) prows ∧ (∀ r ∈ prows, r.length ≤ 4611686018427387904) ∧ P ≤ 4611686018427387904) :
    Calls Tryz.prog 4 #[.slice pn M cn, .slice pz nz cz, .slice pd n cd, .slice pp P cp, .int .i64 now] w fun e w' => e = .returned (.bool true) ∧ Below w.heap.size w w' := by
  obtain ⟨hM, hN, hr0, hM0⟩ := hN
  obtain ⟨hn, hD, hin, hn0⟩ := hD
  obtain ⟨hPl, hPN, hrp, hP0⟩ := hP
  have hl1 := fun (W : World) (hb : Below w.heap.size w W) => (large_any (.slice pn M cn) rows W (hN.kept hb) (by omega) hr0).mono fun e w' h => (⟨h.1, h.2.symm⟩ : e = .returned (.bool (largeN rows)) ∧ W = w')
  have hl2 := fun (W : World) (hb : Below w.heap.size w W) => (large_any (.slice pp P cp) prows W (hPN.kept hb) (by omega) hrp).mono fun e w' h => (⟨h.1, h.2.symm⟩ : e = .returned (.bool (largeN prows)) ∧ W = w')
  have haw := awake_any w
  generalize largeN rows = lg at hl1
  generalize largeN prows = lp at hl2
  replace hl1 := Lib.hid hl1
  replace hl2 := Lib.hid hl2
  replace haw := Lib.hid haw
  replace hN := Lib.hid hN
  replace hZ := Lib.hid hZ
  replace hM := Lib.hid hM
  replace hr0 := Lib.hid hr0
  replace hn := Lib.hid hn
  replace hD := Lib.hid hD
  replace hin := Lib.hid hin
  replace hPl := Lib.hid hPl
  replace hPN := Lib.hid hPN
  replace hrp := Lib.hid hrp
  cases lg with
  | true =>
    go_enter Tryz.func4, Tryz.ntmps4
    go_wp2_with (first
      | (go_at_call 7; (with_reducible refine haw.out.mono ?_); rintro e w1 ⟨rfl, hb1⟩; replace hb1 := Lib.hid hb1)
      | (go_at_call 12; (with_reducible refine (hl1.out w1 hb1.out).mono ?_); rintro e w2 ⟨rfl, rfl⟩))
    go_ret
    exact ⟨rfl, hb1.out⟩
  | false =>
  cases lp with
  | true =>
    go_enter Tryz.func4, Tryz.ntmps4
    go_wp2_with (first
      | (go_at_call 7; (with_reducible refine haw.out.mono ?_); rintro e w1 ⟨rfl, hb1⟩; replace hb1 := Lib.hid hb1)
      | (go_at_call 12; (with_reducible refine (hl1.out w1 hb1.out).mono ?_); rintro e w2 ⟨rfl, rfl⟩; replace hl1 := True.intro)
      | (go_at_call 12; (with_reducible refine (hl2.out w1 hb1.out).mono ?_); rintro e w2 ⟨rfl, rfl⟩))
    go_ret
    exact ⟨rfl, hb1.out⟩
  | false =>
  by_cases h20 : 20 < nz
  · have z : decide ((20 : Int) < (nz : Int)) = true := by rw [decide_eq_true_iff]; omega
    have z2 : (20 : Int) < (nz : Int) := by omega
    go_enter Tryz.func4, Tryz.ntmps4
    go_wp2_with (first
      | (go_at_call 7; (with_reducible refine haw.out.mono ?_); rintro e w1 ⟨rfl, hb1⟩; replace hb1 := Lib.hid hb1)
      | (go_at_call 12; (with_reducible refine (hl1.out w1 hb1.out).mono ?_); rintro e w2 ⟨rfl, rfl⟩; replace hl1 := True.intro)
      | (go_at_call 12; (with_reducible refine (hl2.out w1 hb1.out).mono ?_); rintro e w2 ⟨rfl, rfl⟩))
    go_ret
    exact ⟨rfl, hb1.out⟩
  have z : decide ((20 : Int) < (nz : Int)) = false := by rw [decide_eq_false_iff_not]; omega
  have zn : ¬ (20 : Int) < (nz : Int) := by omega
  by_cases h60 : 60 < n
  · have z3 : decide ((60 : Int) < (n : Int)) = true := by rw [decide_eq_true_iff]; omega
    have z4 : (60 : Int) < (n : Int) := by omega
    go_enter Tryz.func4, Tryz.ntmps4
    go_wp2_with (first
      | (go_at_call 7; (with_reducible refine haw.out.mono ?_); rintro e w1 ⟨rfl, hb1⟩; replace hb1 := Lib.hid hb1)
      | (go_at_call 12; (with_reducible refine (hl1.out w1 hb1.out).mono ?_); rintro e w2 ⟨rfl, rfl⟩; replace hl1 := True.intro)
      | (go_at_call 12; (with_reducible refine (hl2.out w1 hb1.out).mono ?_); rintro e w2 ⟨rfl, rfl⟩))
    go_ret
    exact ⟨rfl, hb1.out⟩
  have z3 : decide ((60 : Int) < (n : Int)) = false := by rw [decide_eq_false_iff_not]; omega
  have z4 : ¬ (60 : Int) < (n : Int) := by omega
  have hn60 : n ≤ 60 := by omega
  go_enter Tryz.func4, Tryz.ntmps4
  go_wp2_with (first
      | (go_at_call 7; (with_reducible refine haw.out.mono ?_); rintro e w1 ⟨rfl, hb1⟩; replace hb1 := Lib.hid hb1)
      | (go_at_call 12; (with_reducible refine (hl1.out w1 hb1.out).mono ?_); rintro e w2 ⟨rfl, rfl⟩; replace hl1 := True.intro)
      | (go_at_call 12; (with_reducible refine (hl2.out w1 hb1.out).mono ?_); rintro e w2 ⟨rfl, rfl⟩))
  go_loopw [41] (fun i wr => ∃ k : Nat, k ≤ n ∧ i = .int .i64 (k : Int) ∧ Hid ((∀ j (h : j < l.length), j < k → l[j].m < 30 ∧ l[j].c < 30) ∧ Below w.heap.size w wr)) (fun i _ => n - (intOf i).toNat)
  case atStart => exact ⟨0, by omega, rfl, Lib.hid ⟨fun j h hj => by omega, hb1.out⟩⟩
  case round =>
    obtain ⟨k, hk, rfl, hS⟩ := hrel
    by_cases hkn : k < n
    · have hkl : k < l.length := by have := hn.out; omega
      obtain ⟨a, cap, e, hc, hrd⟩ := hD.out
      obtain ⟨b, off, rfl, hlt, hall⟩ := hrd.resolve_left (by rintro rfl; simp at hkl)
      injection e with e1 e2 e3
      subst e1
      have hbl := hS.out.2
      have hold := hS.out.1
      have e0 := (hbl.cell (p := ⟨b, off + k * 4 + 0, none⟩) hlt).trans (hall k hkl 0 _ rfl)
      have e1 := (hbl.cell (p := ⟨b, off + k * 4 + 1, none⟩) hlt).trans (hall k hkl 1 _ rfl)
      have e2 := (hbl.cell (p := ⟨b, off + k * 4 + 2, none⟩) hlt).trans (hall k hkl 2 _ rfl)
      have e3 := (hbl.cell (p := ⟨b, off + k * 4 + 3, none⟩) hlt).trans (hall k hkl 3 _ rfl)
      rw [Nat.add_zero] at e0
      have hgl : b < wr.heap.size := Nat.lt_of_lt_of_le hlt hbl.size
      have hbox : Hid (∀ o, Below w.heap.size w (wr.alloc o)) := Lib.hid fun o => hbl.alloc hbl.size o
      have hnext : l[k].m < 30 → l[k].c < 30 → ∀ j (h : j < l.length), j < k + 1 → l[j].m < 30 ∧ l[j].c < 30 := fun h1 h2 j h hj => by
        by_cases hjk : j = k
        · subst hjk; exact ⟨h1, h2⟩
        · exact hold j h (by omega)
      replace hcc := Lib.hid hc
      clear hbl hall hold hrd hc hS
      generalize l[k] = x at *
      by_cases hm : 30 ≤ x.m
      · have y1 : decide (30 ≤ x.m) = true := by rw [decide_eq_true_iff]; exact hm
        replace hnext := True.intro
        go_wp2_with fail
        go_ret
        exact ⟨rfl, hbox.out _⟩
      · have y1 : decide (30 ≤ x.m) = false := by rw [decide_eq_false_iff_not]; exact hm
        by_cases hcx : 30 ≤ x.c
        · have y2 : decide (30 ≤ x.c) = true := by rw [decide_eq_true_iff]; exact hcx
          replace hnext := True.intro
          go_wp2_with fail
          go_ret
          exact ⟨rfl, hbox.out _⟩
        · have y2 : decide (30 ≤ x.c) = false := by rw [decide_eq_false_iff_not]; exact hcx
          replace hnext := Lib.hid (hnext (by omega) (by omega))
          go_wp2_with fail
          go_roundw
          case rel => exact ⟨k + 1, by omega, by go_num, Lib.hid ⟨hnext.out, hbox.out _⟩⟩
          case measure => simp [intOf]; omega
    · obtain rfl : k = n := by omega
      have hkz : ¬ (k : Int) < (k : Int) := by omega
      have hbl := hS.out.2
      have h30 : ∀ d ∈ l, d.m < 30 ∧ d.c < 30 := fun d hd => by
        obtain ⟨j, hj, rfl⟩ := List.mem_iff_getElem.1 hd
        exact hS.out.1 j hj (by have := hn.out; omega)
      obtain ⟨X, E, hX, s13, s14⟩ := sch_both pn M cn rows pz nz cz zs wr (hN.out.kept hbl) hM.out hM0 hr0.out (hZ.out.kept hbl)
      have hbeh := fun (W : World) (hb : Below w.heap.size w W) => beh_both pd k cd now l pp P cp prows W (hD.out.kept hb) hn.out.symm hn60 hin.out (fun d hd => (h30 d hd).1) (fun d hd => (h30 d hd).2) (hPN.out.kept hb) hPl.out hP0 hrp.out
      have ho17 := fun (W : World) (u : Value) (L : List Du) (hL : L.length ≤ 4096) (hu : USeq W u L) => own_any u L W hu (by omega)
      have hs18 := fun (W : World) (u v : Value) (L : List Du) (hL : L.length ≤ 4096) (hu : USeq W u L) (hv : USeq W v L) => (sameU_any u v L L W hu hv (by omega) (by omega)).mono fun e w' h => (⟨by rw [h.1, decide_eq_true rfl], by obtain ⟨m, rfl⟩ := h.2; exact below_drawn W m⟩ : e = .returned (.bool true) ∧ Below W.heap.size W w')
      have hlD : l.length ≤ 4096 := by have := hn.out; omega
      replace hbl := Lib.hid hbl
      replace hX := Lib.hid hX
      replace s13 := Lib.hid s13
      replace s14 := Lib.hid s14
      replace hbeh := Lib.hid hbeh
      replace ho17 := Lib.hid ho17
      replace hs18 := Lib.hid hs18
      replace hlD := Lib.hid hlD
      clear hS h30 hM0 hP0 hn0
      go_wp2_with (first
        | (go_at_call 13; (with_reducible refine s13.out.mono ?_); rintro e w13 ⟨u13, rfl, hu13, hb13⟩; replace hu13 := Lib.hid hu13; replace hb13 := Lib.hid hb13)
        | (go_at_call 14; (with_reducible refine (s14.out w13 hb13.out).mono ?_); rintro e w14 ⟨u14, rfl, hu14, hb14⟩; replace hu13 := Lib.hid (hu13.out.kept hb14); replace hu14 := Lib.hid hu14; replace hb14 : Hid (Below w.heap.size w w14) := Lib.hid ((hbl.out.trans (hb13.out.mono hbl.out.size)).trans (hb14.mono (Nat.le_trans hbl.out.size hb13.out.size))))
        | (go_at_call 15; (obtain ⟨Y, F, hY, b15, b16⟩ := hbeh.out w14 hb14.out); (with_reducible refine b15.mono ?_); rintro e w15 ⟨u15, rfl, hu15, hb15⟩; replace b15 := True.intro; replace b16 := Lib.hid b16; replace hY := Lib.hid hY; replace hu13 := Lib.hid (hu13.out.kept hb15); replace hu14 := Lib.hid (hu14.out.kept hb15); replace hu15 := Lib.hid hu15; replace hb15 := Lib.hid hb15)
        | (go_at_call 17; (with_reducible refine (ho17.out w15 (.slice pd k cd) l hlD.out (hD.out.kept (hb14.out.trans (hb15.out.mono hb14.out.size)))).mono ?_); rintro e w16 ⟨u17, rfl, hu17, hb16⟩; replace hu13 := Lib.hid (hu13.out.kept hb16); replace hu14 := Lib.hid (hu14.out.kept hb16); replace hu15 := Lib.hid (hu15.out.kept hb16); replace hu17 := Lib.hid hu17; replace hb16 : Hid (Below w14.heap.size w14 w16) := Lib.hid (hb15.out.trans (hb16.mono hb15.out.size)))
        | (go_at_call 16; (with_reducible refine (b16.out w16 hb16.out u17 hu17.out).mono ?_); rintro e w17 ⟨u16, rfl, hu16, hb17⟩; replace hu13 := Lib.hid (hu13.out.kept hb17); replace hu14 := Lib.hid (hu14.out.kept hb17); replace hu15 := Lib.hid (hu15.out.kept hb17); replace hu16 := Lib.hid hu16; replace hb17 : Hid (Below w.heap.size w w17) := Lib.hid ((hb14.out.trans (hb16.out.mono hb14.out.size)).trans (hb17.mono (Nat.le_trans hb14.out.size hb16.out.size))))
        | (go_at_call 17; (with_reducible refine (ho17.out w17 u13 X hX.out hu13.out).mono ?_); rintro e w18 ⟨a13, rfl, ha13, hb18⟩; replace hu14 := Lib.hid (hu14.out.kept hb18); replace hu15 := Lib.hid (hu15.out.kept hb18); replace hu16 := Lib.hid (hu16.out.kept hb18); replace ha13 := Lib.hid ha13; replace hb18 : Hid (Below w.heap.size w w18) := Lib.hid (hb17.out.trans (hb18.mono hb17.out.size)))
        | (go_at_call 18; (with_reducible refine (hs18.out w18 a13 u14 X hX.out ha13.out hu14.out).mono ?_); rintro e w19 ⟨rfl, hb19⟩; replace hu15 := Lib.hid (hu15.out.kept hb19); replace hu16 := Lib.hid (hu16.out.kept hb19); replace hb19 : Hid (Below w.heap.size w w19) := Lib.hid (hb18.out.trans (hb19.mono hb18.out.size)))
        | (go_at_call 17; (with_reducible refine (ho17.out w19 u15 Y hY.out hu15.out).mono ?_); rintro e w20 ⟨a15, rfl, ha15, hb20⟩; replace hu16 := Lib.hid (hu16.out.kept hb20); replace ha15 := Lib.hid ha15; replace hb20 : Hid (Below w.heap.size w w20) := Lib.hid (hb19.out.trans (hb20.mono hb19.out.size)))
        | (go_at_call 18; (with_reducible refine (hs18.out w20 a15 u16 Y hY.out ha15.out hu16.out).mono ?_); rintro e w21 ⟨rfl, hb21⟩; replace hb21 : Hid (Below w.heap.size w w21) := Lib.hid (hb20.out.trans (hb21.mono hb20.out.size))))
      go_ret
      exact ⟨rfl, hb21.out⟩
end Go.Proofs.YthocnlalahknjaaGreat.Dd
