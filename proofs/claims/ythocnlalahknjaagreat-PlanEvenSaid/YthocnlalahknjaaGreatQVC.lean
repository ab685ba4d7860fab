/- PlanEven's walk. -/
import Derived.Test.YthocnlalahknjaaGreatQVB
namespace Go.Proofs.YthocnlalahknjaaGreat.Dd
open Go.RowKit Go.Maps
set_option linter.unusedVariables false

set_option maxHeartbeats 4000000 in
set_option maxRecDepth 100000 in
theorem planEven_any (p : Option Addr) (len cap : Nat) (ds : List Dl) (w : World) (h : DlRow w p len ds) (hlen : len ≤ 4611686018427387904) :
    Calls Tryz.prog 5 #[.slice p len cap] w fun e w' => e = .returned (.bool true) ∧ Below w.heap.size w w' := by
  have haw := awake_any w
  by_cases h60 : 60 < len
  · have z : (60 : Int) < (len : Int) := by omega
    go_enter Tryz.func5, Tryz.ntmps5
    go_wp2_with (go_at_call 7; (with_reducible refine haw.mono ?_); rintro e w1 ⟨rfl, hb1⟩; replace hb1 := Lib.hid hb1)
    go_ret
    exact ⟨rfl, hb1.out⟩
  · have z : ¬ (60 : Int) < (len : Int) := by omega
    have hin := h.2.1
    have hl := h.1
    have hbk := fun W (hb : Below w.heap.size w W) => books_any p len cap ds W (h.kept hb) (by omega)
    have hnet := fun (G : Nat → Prop) (W : World) (gb rb : Nat) (hA : Apart G (BX gb (subS bkE ds)) (RX' rb (subS bkE ds)) W) => net_book hA hin (by omega) 16 8
    have hmok : ∀ d ∈ matchedD (subS bkE ds), DlOk d := matched_ok (subS_ok ds bkE bkE_ok hin) (subS_grow ds bkE).2.2.1 (subS_grow ds bkE).2.2.2
    obtain ⟨F, hF⟩ : ∃ F, F = flowsL (matchedD (subS bkE ds)) := ⟨_, rfl⟩
    have htot : ∀ c, c < 8 → tot F c = 0 := fun c hc => by rw [hF]; exact tot_zero c hc _ hmok
    have hany : (matchedD (subS bkE ds)).any (fun d => outD d 16 8) = false := by
      rw [List.any_eq_false]
      intro d hd
      obtain ⟨a0, a1, b0, b1, c0, c1, e0, e1, _⟩ := hmok d hd
      unfold outD
      simp only [Bool.or_eq_true, decide_eq_true_eq]
      omega
    have hnet2 : ∀ (G : Nat → Prop) (W : World) (gb rb : Nat) (hA : Apart G (BX gb (subS bkE ds)) (RX' rb (subS bkE ds)) W),
        Calls Tryz.prog 9 #[.pointer (some ⟨gb, 0, none⟩), .int .i64 16, .int .i64 8] W fun e w' => Below W.heap.size W w' ∧
          (e = .returned (.tuple #[.slice none 0 0, .int .i64 3]) ∨ (overF F 16 8 = false ∧ ∃ a cap, e = .returned (.tuple #[.slice a 16 cap, .int .i64 0]) ∧ NSeq w' (.slice a 16 cap) (netsL F 16 8))) := fun G W gb rb hA => (hnet G W gb rb hA).mono fun e w' ⟨hb, hN⟩ => by
      refine ⟨hb, ?_⟩
      rcases hN with ⟨hm, _⟩ | ⟨_, _, _, _, hm, _⟩ | ⟨_, _, _, _, _, _, rfl⟩ | ⟨_, _, _, _, _, hov, u, rfl, hU⟩
      · omega
      · rw [hany] at hm; cases hm
      · exact .inl rfl
      · rw [← hF] at hov hU
        obtain ⟨a, cap, rfl, hU2⟩ := id hU
        exact .inr ⟨hov, a, cap, rfl, hU⟩
    replace haw := Lib.hid haw
    replace hbk := Lib.hid hbk
    replace hnet2 := Lib.hid hnet2
    replace htot := Lib.hid htot
    clear hnet hany hmok h hin hl hF h60
    go_enter Tryz.func5, Tryz.ntmps5
    go_wp2_with (first
      | (go_at_call 7; (with_reducible refine haw.out.mono ?_); rintro e w1 ⟨rfl, hb1⟩; replace hb1 := Lib.hid hb1)
      | (go_at_call 8; (with_reducible refine (hbk.out w1 hb1.out).mono ?_); rintro e w2 ⟨gb, rb, rfl, hA, hb2⟩; replace hA := Lib.hid hA; replace hb2 : Hid (Below w.heap.size w w2) := Lib.hid (hb1.out.trans (hb2.mono hb1.out.size)))
      | (go_at_call 9; (with_reducible refine (hnet2.out _ w2 gb rb hA.out).mono ?_); rintro e w3 ⟨hb3, hN⟩; replace hb3 : Hid (Below w.heap.size w w3) := Lib.hid (hb2.out.trans (hb3.mono hb2.out.size)); rcases hN with rfl | ⟨hov, a, cp, rfl, hU⟩))
    · go_ret
      exact ⟨rfl, hb3.out⟩
    · obtain ⟨a', cp', e9, hU2⟩ := id hU
      have hlN : (netsL F 16 8).length = 16 := by simp [netsL]
      obtain ⟨b, off, rfl, hlt, hall⟩ : ∃ b off, a = some ⟨b, off, none⟩ ∧ b < w3.heap.size ∧ ∀ i, i < 16 → ∃ p c2, w3.cell? ⟨b, off + i, none⟩ = some (.slice p 8 c2) ∧ Seq64 w3 p 8 (netRow F 8 i) := by
        injection e9 with e9 _ _
        subst e9
        obtain ⟨b, off, rfl, hlt, hall⟩ := hU2.resolve_left (by intro h; rw [h] at hlN; simp at hlN)
        refine ⟨b, off, rfl, hlt, fun i hi => ?_⟩
        obtain ⟨p, c2, h1, h2⟩ := hall i (by rw [hlN]; exact hi)
        have e8 : (netsL F 16 8)[i]'(by rw [hlN]; exact hi) = netRow F 8 i := by simp [netsL]
        have e7 : (netRow F 8 i).length = 8 := by simp [netRow]
        rw [e8, e7] at h1 h2
        exact ⟨p, c2, h1, h2⟩
      have hamt : ∀ m c, m < 16 → c < 8 → Amt (sumL (F (m * 8 + c))) := fun m c hm hc => by
        unfold overF at hov
        rw [List.any_eq_false] at hov
        have h1 := hov m (List.mem_range.2 hm)
        rw [Bool.not_eq_true, List.any_eq_false] at h1
        have h2 := h1 c (List.mem_range.2 hc)
        rw [← fitB_iff]; simpa using h2
      replace hall := Lib.hid hall
      replace hamt := Lib.hid hamt
      clear hU hU2 e9 hov hlN hA
      go_wp2_with fail
      go_loopw [7] (fun i wr => ∃ c : Nat, c ≤ 8 ∧ i = .int .i64 (c : Int) ∧ Hid (Below w3.heap.size w3 wr)) (fun i _ => 8 - (intOf i).toNat)
      case atStart => exact ⟨0, by omega, rfl, Lib.hid (Below.refl _ _)⟩
      case round =>
        obtain ⟨c, hc, rfl, hT⟩ := hrel
        by_cases hc8 : c < 8
        · have zc : (c : Int) < 8 := by omega
          have hst : Hid (IR wr wr (.slice none 0 0) ((List.range 0).map fun m => sumL (F (m * 8 + c)))) := Lib.hid (IR.nil wr)
          obtain ⟨w4, hw4⟩ : ∃ w4, w4 = wr := ⟨_, rfl⟩
          rw [← hw4] at hst hT ⊢
          clear hw4
          go_wp2_with fail
          go_loopw [8, 47] (fun u i wr => ∃ m : Nat, m ≤ 16 ∧ i = .int .i64 (m : Int) ∧ Hid (IR w4 wr u ((List.range m).map fun m => sumL (F (m * 8 + c))))) (fun _ i _ => 16 - (intOf i).toNat)
          case atStart => exact ⟨0, by omega, rfl, hst⟩
          case round =>
            obtain ⟨m, hm, rfl, hS⟩ := hrel
            by_cases hm16 : m < 16
            · have zm : (m : Int) < 16 := by omega
              obtain ⟨pm, cm, hcm, hsm⟩ := hall.out m hm16
              obtain ⟨-, -, -, hcs⟩ := hsm
              obtain ⟨b2, off2, rfl, hlt2, hall2⟩ := hcs.resolve_left (by omega)
              have hx := hall2 c hc8
              have hnr : (netRow F 8 m).getD c 0 = sumL (F (m * 8 + c)) := by simp [netRow, List.getD_eq_getElem?_getD, hc8]
              rw [hnr] at hx
              have hb4 : Below w3.heap.size w3 wr := hT.out.trans (hS.out.bl.mono hT.out.size)
              replace hcm := (hb4.cell (p := ⟨b, off + m, none⟩) hlt).trans hcm
              replace hx := (hb4.cell (p := ⟨b2, off2 + c, none⟩) hlt2).trans hx
              have hl1 : b < wr.heap.size := Nat.lt_of_lt_of_le hlt hb4.size
              have hl2 : b2 < wr.heap.size := Nat.lt_of_lt_of_le hlt2 hb4.size
              have hsucc : (List.range (m + 1)).map (fun m => sumL (F (m * 8 + c))) = ((List.range m).map fun m => sumL (F (m * 8 + c))) ++ [sumL (F (m * 8 + c))] := by rw [List.range_succ, List.map_append]; rfl
              have hlenM : ((List.range m).map fun m => sumL (F (m * 8 + c))).length ≤ 16 := by simp; omega
              generalize sumL (F (m * 8 + c)) = x at *
              obtain ⟨T, hT1⟩ : ∃ T, T = (List.range m).map fun m => sumL (F (m * 8 + c)) := ⟨_, rfl⟩
              rw [← hT1] at hS hsucc hlenM
              have hnx : Hid (∀ (v' : Value) (w' : World), w'.ownsRow 0 2 1 v' (T.length + 1) (T.map (Value.int .i64) ++ [.int .i64 x]) → (wr.alloc (.cells #[.int .i64 x] 2)).grownBy w' u8.ownBlock → (∀ g', v'.ownBlock = some g' → u8.ownBlock = some g' ∨ wr.heap.size + 1 ≤ g') → IR w4 w' v' (T ++ [x])) := Lib.hid fun v' w' h1 h2 h3 => hS.out.app h1 h2 h3
              have hpre := Lib.hid (hS.out.pre (.cells #[.int .i64 x] 2))
              have hbx := Lib.hid (box2 x (heap_alloc_new wr (.cells #[.int .i64 x] 2)))
              replace hsucc := Lib.hid hsucc
              replace hlenM := Lib.hid hlenM
              replace hT1 := Lib.hid hT1
              replace hb4 := Lib.hid hb4
              clear hall2 hcs hnr
              go_wp2_with (at_builtin; refine wpList_app1 50 2 1 8 _ Tryz.underlying50 info2 (by rfl) (by omega) (by omega) rfl _ _ rfl rfl _ _ _ rfl hpre.out ⟨wr.heap.size, 0, none⟩ [.int .i64 x] rfl rfl hbx.out (fun u hu => by obtain rfl := List.mem_singleton.1 hu; rfl) (by have := hlenM.out; omega) ?_)
              intro v' w' hr' hg' hv'
              go_wp2_with fail
              go_roundw
              case rel => exact ⟨m + 1, by omega, by go_num, Lib.hid (by rw [hsucc.out]; exact hnx.out _ _ hr' hg' hv')⟩
              case measure => simp [intOf]; omega
            · obtain rfl : m = 16 := by omega
              have hb4 : Below w3.heap.size w3 wr := hT.out.trans (hS.out.bl.mono hT.out.size)
              obtain ⟨pp, cc, hpv, -, -, -⟩ := orow_shape hS.out.row
              have hrow := hS.out.row
              have hlL : ((List.range 16).map fun m => sumL (F (m * 8 + c))).length = 16 := by simp
              rw [hpv] at hrow
              have hsq := orow_seq hrow rfl (fun x hx => by
                obtain ⟨m, hm, rfl⟩ := List.mem_map.1 hx
                exact hamt.out m c (List.mem_range.1 hm) hc8) (by rw [hlL]; omega)
              have hsum := sum_any pp _ cc _ wr hsq
              have h0 : sumL ((List.range 16).map fun m => sumL (F (m * 8 + c))) = 0 := htot.out c hc8
              have f0 : fitV 0 = 0 := by decide
              have f1 : fitE 0 = 0 := by decide
              rw [h0, f0, f1, hlL] at hsum
              rw [hlL] at hpv
              subst hpv
              replace hsum := Lib.hid hsum
              replace hb4 := Lib.hid hb4
              clear hrow hsq h0 f0 f1 hlL hS
              go_wp2_with (go_at_call 19; (with_reducible refine hsum.out.mono ?_); rintro e w5 ⟨rfl, hb5⟩; replace hb5 : Hid (Below w3.heap.size w3 w5) := Lib.hid (hb4.out.trans (hb5.mono hb4.out.size)))
              go_roundw
              case rel => exact ⟨c + 1, by omega, by go_num, hb5⟩
              case measure => simp [intOf]; omega
        · obtain rfl : c = 8 := by omega
          go_wp2_with fail
          go_ret
          exact ⟨rfl, hb3.out.trans (hT.out.mono hb3.out.size)⟩
end Go.Proofs.YthocnlalahknjaaGreat.Dd
