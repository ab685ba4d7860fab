/- The contracts of the reference's Cut, Move. -/
import Derived.Test.YtidofjjghbhaaaaH2
namespace Go.Proofs.Ytidofjjghbhaaaa
open Go.RowKit
set_option linter.unusedVariables false

theorem sv_take (l : List UInt8) (q : Nat) : Value.string ((⟨l.toArray⟩ : ByteArray).extract 0 q) = sv (l.take q) := by
  unfold sv
  rw [ByteArray.extract_mk]
  simp

set_option maxHeartbeats 2000000 in
set_option maxRecDepth 100000 in
theorem cutR_any (b : Nat) (m : DM) (f n : Int) (w : World) (h : IsR w b m) (ok : m.Ok) :
    Calls Try.prog 70 #[.pointer (some ⟨b, 0, none⟩), .int .i64 f, .int .i64 n] w fun e w' => e = .returned (.int .i64 (m.cut f n).1) ∧ IsR w' b (m.cut f n).2 ∧ Kp (· = b) w w' := by
  have hH := fun w => no_any f w
  have hB := burnR_any b m w h ok.fuse
  replace hB := Lib.hid hB
  cases hf : isFile f with
  | false =>
    have e1 : m.cut f n = (1, m) := by unfold DM.cut DM.cutOk; rw [hf]; rfl
    rw [e1]
    rw [hf] at hH
    replace hH := Lib.hid hH
    replace h := Lib.hid h
    clear e1 hf
    go_enter Try.func70, Try.ntmps70
    go_wp2_with (first | (go_at_call 35; refine (hH.out _).mono ?_; rintro e w' ⟨rfl, rfl⟩))
    go_ret
    exact ⟨rfl, h.out, Kp.refl _ _⟩
  | true =>
    obtain ⟨k, rfl, hk⟩ := isFile_nat hf
    rw [hf] at hH
    replace hH := Lib.hid hH
    by_cases hn0 : n < 0
    · have e1 : m.cut (k : Int) n = (1, m) := by unfold DM.cut DM.cutOk; rw [hf, decide_eq_false (by omega : ¬ 0 ≤ n)]; rfl
      rw [e1]
      replace h := Lib.hid h
      clear e1 hf
      go_enter Try.func70, Try.ntmps70
      go_wp2_with (first | (go_at_call 35; refine (hH.out _).mono ?_; rintro e w' ⟨rfl, rfl⟩))
      go_ret
      exact ⟨rfl, h.out, Kp.refl _ _⟩
    · obtain ⟨q, rfl⟩ : ∃ q : Nat, n = (q : Int) := ⟨n.toNat, by omega⟩
      have hkz : (k : Int) < 4 := by omega
      have c := h.text hk
      have hsz : (⟨(m.B k).toArray⟩ : ByteArray).size = (m.B k).length := by rw [sz, bl_mk]
      unfold sv at c
      by_cases hq : (m.B k).length < q
      · have e1 : m.cut (k : Int) (q : Int) = (1, m) := by
          unfold DM.cut DM.cutOk
          rw [hf, decide_eq_true (by omega : (0 : Int) ≤ (q : Int)), decide_eq_false (by simp; omega : ¬ (q : Int) ≤ ((m.B (k : Int).toNat).length : Int))]; rfl
        rw [e1]
        rw [← hsz] at hq
        generalize (⟨(m.B k).toArray⟩ : ByteArray) = t at *
        have hqz : (t.size : Int) < (q : Int) := by omega
        replace h := Lib.hid h
        replace hsz := Lib.hid hsz
        clear e1 hf hn0
        go_enter Try.func70, Try.ntmps70
        go_wp2_with (first | (go_at_call 35; refine (hH.out _).mono ?_; rintro e w' ⟨rfl, rfl⟩))
        go_ret
        exact ⟨rfl, h.out, Kp.refl _ _⟩
      · have ec : m.cutOk (k : Int) (q : Int) = true := by
          unfold DM.cutOk
          rw [hf, decide_eq_true (by omega : (0 : Int) ≤ (q : Int)), decide_eq_true (by simp; omega : (q : Int) ≤ ((m.B (k : Int).toNat).length : Int))]; rfl
        rw [← hsz] at hq
        have hB2 := m.burnt_B
        have hS2 := m.burnt_S
        cases hp : m.pow with
        | false =>
          have e1 : m.cut (k : Int) (q : Int) = (9, m.burnt) := by unfold DM.cut; rw [ec, hp]; rfl
          rw [e1]
          rw [hp] at hB
          generalize (⟨(m.B k).toArray⟩ : ByteArray) = t at *
          have hqz : ¬ (t.size : Int) < (q : Int) := by omega
          replace h := Lib.hid h
          replace hsz := Lib.hid hsz
          replace hB2 := Lib.hid hB2
          replace hS2 := Lib.hid hS2
          clear e1 hf hn0 ec hp
          go_enter Try.func70, Try.ntmps70
          go_wp2_with (first | (go_at_call 35; refine (hH.out _).mono ?_; rintro e w' ⟨rfl, rfl⟩) | (go_at_call 36; refine (hB.out).mono ?_; rintro e w1 ⟨rfl, hR, hK⟩; replace hR := Lib.hid hR; replace hK := Lib.hid hK))
          go_ret
          exact ⟨rfl, hR.out, hK.out⟩
        | true =>
          have e1 : m.cut (k : Int) (q : Int) = (0, (m.burnt.put (upd m.burnt.B k ((m.B k).take q)) m.burnt.S).put (upd m.burnt.B k ((m.B k).take q)) (upd m.burnt.S k (min (m.S k) q))) := by
            unfold DM.cut; rw [ec, hp, m.burnt_B, m.burnt_S]; rfl
          rw [e1]
          rw [hp] at hB
          have htk := sv_take (m.B k) q
          have hct : sv (m.burnt.B k) = .string ⟨(m.B k).toArray⟩ := by rw [m.burnt_B]; rfl
          generalize (⟨(m.B k).toArray⟩ : ByteArray) = t at *
          have hqz : ¬ (t.size : Int) < (q : Int) := by omega
          have hqz2 : (q : Int) ≤ (t.size : Int) := by omega
          replace h := Lib.hid h
          replace hsz := Lib.hid hsz
          replace hB2 := Lib.hid hB2
          replace hS2 := Lib.hid hS2
          replace htk := Lib.hid htk
          replace hct := Lib.hid hct
          clear e1 hf hn0 ec hp
          go_enter Try.func70, Try.ntmps70
          go_upto_region 5 with (first | (go_at_call 35; refine (hH.out _).mono ?_; rintro e w' ⟨rfl, rfl⟩) | (go_at_call 36; refine (hB.out).mono ?_; rintro e w1 ⟨rfl, hR, hK⟩; replace hR := Lib.hid hR; replace hK := Lib.hid hK))
          have c2 := hR.out.text hk
          rw [hct.out] at c2
          have z := obj_free hR.out
          have hR5 : IsR (w1.setCell ⟨b, k, none⟩ (.string (t.extract 0 q))).drew b (m.burnt.put (upd m.burnt.B k ((m.B k).take q)) m.burnt.S) := by
            rw [htk.out]; exact hR.out.setB hk _
          have hK5 : Kp (· = b) w (w1.setCell ⟨b, k, none⟩ (.string (t.extract 0 q))).drew := (hK.out.trans kp_set).drew
          replace hR5 := Lib.hid hR5
          replace hK5 := Lib.hid hK5
          go_still_tail 13, (by kernel_rfl)
          change wpList _ _ _ _ _ (World.drew _)
          go_upto_region 6 with (fail)
          clear c2 z c
          generalize (w1.setCell ⟨b, k, none⟩ (.string (t.extract 0 q))).drew = W5 at *
          have c4 : W5.cell? ⟨b, 4 + k, none⟩ = some (.int .i64 (m.burnt.S k : Nat)) := hR5.out.sure hk
          rw [hS2.out] at c4
          have z := obj_free hR5.out
          have hmin := fun w => min2_run (m.S k) q w
          obtain ⟨u, hu⟩ : ∃ u, min (m.S k) q = u := ⟨_, rfl⟩
          have hfin : IsR (W5.setCell ⟨b, 4 + k, none⟩ (.int .i64 (u : Nat))) b ((m.burnt.put (upd m.burnt.B k ((m.B k).take q)) m.burnt.S).put (upd m.burnt.B k ((m.B k).take q)) (upd m.burnt.S k (min (m.S k) q))) := by
            rw [hu]; exact hR5.out.setS hk u
          rw [hu] at hmin
          replace hu := Lib.hid hu
          replace hfin := Lib.hid hfin
          go_still_tail 13, (by kernel_rfl)
          change wpList _ _ _ _ _ (World.drew _)
          go_wp2_with fail
          go_ret
          exact ⟨rfl, hfin.out, (hK5.out.trans kp_set).drew⟩

theorem upd_upd_same {α : Type} (f : Nat → α) (k : Nat) (x : α) : upd (upd f k x) k (f k) = f := by
  funext j
  by_cases e : j = k
  · subst e; rw [upd_same]
  · rw [upd_other _ _ e, upd_other _ _ e]
theorem upd_comm {α : Type} (f : Nat → α) {k j : Nat} (h : k ≠ j) (x y : α) : upd (upd f k x) j y = upd (upd f j y) k x := by
  funext i
  by_cases e : i = j
  · subst e; rw [upd_same, upd_other _ _ (Ne.symm h), upd_same]
  · rw [upd_other _ _ e]
    by_cases e2 : i = k
    · subst e2; rw [upd_same, upd_same]
    · rw [upd_other _ _ e2, upd_other _ _ e2, upd_other _ _ e]

set_option maxHeartbeats 2000000 in
set_option maxRecDepth 100000 in
theorem movR_any (b : Nat) (m : DM) (f t : Int) (w : World) (h : IsR w b m) (ok : m.Ok) :
    Calls Try.prog 69 #[.pointer (some ⟨b, 0, none⟩), .int .i64 f, .int .i64 t] w fun e w' => e = .returned (.int .i64 (m.mov f t).1) ∧ IsR w' b (m.mov f t).2 ∧ Kp (· = b) w w' := by
  have hH := fun w => no_any f w
  have hG := fun w => no_any t w
  have hB := burnR_any b m w h ok.fuse
  replace hB := Lib.hid hB
  cases hf : isFile f with
  | false =>
    have e1 : m.mov f t = (1, m) := by unfold DM.mov; rw [hf]; rfl
    rw [e1]
    rw [hf] at hH
    replace hH := Lib.hid hH
    replace h := Lib.hid h
    clear e1 hf hG
    go_enter Try.func69, Try.ntmps69
    go_wp2_with (first | (go_at_call 35; refine (hH.out _).mono ?_; rintro e w' ⟨rfl, rfl⟩))
    go_ret
    exact ⟨rfl, h.out, Kp.refl _ _⟩
  | true =>
    rw [hf] at hH
    replace hH := Lib.hid hH
    cases ht : isFile t with
    | false =>
      have e1 : m.mov f t = (1, m) := by unfold DM.mov; rw [hf, ht]; rfl
      rw [e1]
      rw [ht] at hG
      replace hG := Lib.hid hG
      replace h := Lib.hid h
      clear e1 hf ht
      go_enter Try.func69, Try.ntmps69
      go_wp2_with (first | (go_at_call 35; (with_reducible refine (hH.out _).mono ?_); rintro e w' ⟨rfl, rfl⟩) | (go_at_call 35; (with_reducible refine (hG.out _).mono ?_); rintro e w' ⟨rfl, rfl⟩))
      go_ret
      exact ⟨rfl, h.out, Kp.refl _ _⟩
    | true =>
      rw [ht] at hG
      replace hG := Lib.hid hG
      have hfc : (isFile f && isFile t) = true := by rw [hf, ht]; rfl
      obtain ⟨k, rfl, hk⟩ := isFile_nat hf
      obtain ⟨j, rfl, hj⟩ := isFile_nat ht
      cases hp : m.pow with
      | false =>
        have e1 : m.mov (k : Int) (j : Int) = (9, m.burnt) := by unfold DM.mov; rw [hfc, hp]; rfl
        rw [e1]
        rw [hp] at hB
        replace h := Lib.hid h
        clear e1 hf ht hfc hp
        go_enter Try.func69, Try.ntmps69
        go_wp2_with (first | (go_at_call 35; (with_reducible refine (hH.out _).mono ?_); rintro e w' ⟨rfl, rfl⟩) | (go_at_call 35; (with_reducible refine (hG.out _).mono ?_); rintro e w' ⟨rfl, rfl⟩) | (go_at_call 36; refine (hB.out).mono ?_; rintro e w1 ⟨rfl, hR, hK⟩; replace hR := Lib.hid hR; replace hK := Lib.hid hK))
        go_ret
        exact ⟨rfl, hR.out, hK.out⟩
      | true =>
        rw [hp] at hB
        have e1 : m.mov (k : Int) (j : Int) = (0, m.burnt.put (upd (upd m.burnt.B k []) j (m.burnt.B k)) (upd (upd m.burnt.S k 0) j (m.burnt.S k))) := by
          unfold DM.mov; rw [hfc, hp, m.burnt_B, m.burnt_S]; rfl
        rw [e1]
        have hkz : (k : Int) < 4 := by omega
        have hjz : (j : Int) < 4 := by omega
        replace h := Lib.hid h
        clear e1 hf ht hfc hp
        by_cases hkj : k = j
        · subst hkj
          have e2 : m.burnt.put (upd (upd m.burnt.B k []) k (m.burnt.B k)) (upd (upd m.burnt.S k 0) k (m.burnt.S k)) = m.burnt := by rw [upd_upd_same, upd_upd_same]; rfl
          rw [e2]
          replace e2 := Lib.hid e2
          go_enter Try.func69, Try.ntmps69
          go_wp2_with (first | (go_at_call 35; (with_reducible refine (hH.out _).mono ?_); rintro e w' ⟨rfl, rfl⟩) | (go_at_call 36; refine (hB.out).mono ?_; rintro e w1 ⟨rfl, hR, hK⟩; replace hR := Lib.hid hR; replace hK := Lib.hid hK))
          go_ret
          exact ⟨rfl, hR.out, hK.out⟩
        · rw [upd_comm m.burnt.B hkj, upd_comm m.burnt.S hkj]
          have hne : ((k : Int) != (j : Int)) = true := by simp; omega
          go_enter Try.func69, Try.ntmps69
          go_upto_region 6 with (first | (go_at_call 35; (with_reducible refine (hH.out _).mono ?_); rintro e w' ⟨rfl, rfl⟩) | (go_at_call 35; (with_reducible refine (hG.out _).mono ?_); rintro e w' ⟨rfl, rfl⟩) | (go_at_call 36; refine (hB.out).mono ?_; rintro e w1 ⟨rfl, hR, hK⟩; replace hR := Lib.hid hR; replace hK := Lib.hid hK))
          have c1 := hR.out.text hk
          have cj := hR.out.text hj
          have z := obj_free hR.out
          have hR6 := hR.out.setB hj (m.burnt.B k)
          have hK6 : Kp (· = b) w (w1.setCell ⟨b, j, none⟩ (sv (m.burnt.B k))).drew := (hK.out.trans kp_set).drew
          unfold sv at c1 cj hR6 hK6
          replace hR6 := Lib.hid hR6
          replace hK6 := Lib.hid hK6
          generalize (⟨(m.burnt.B k).toArray⟩ : ByteArray) = t1 at *
          go_still_tail 11, (by kernel_rfl)
          change wpList _ _ _ _ _ (World.drew _)
          go_upto_region 7 with (fail)
          clear c1 cj z
          have hR6' : IsR (w1.setCell ⟨b, j, none⟩ (.string t1)).drew b _ := hR6.out
          generalize (w1.setCell ⟨b, j, none⟩ (.string t1)).drew = W6 at *
          have c2 : W6.cell? ⟨b, 4 + k, none⟩ = some (.int .i64 (m.burnt.S k : Nat)) := hR6'.sure hk
          have c3 : W6.cell? ⟨b, 4 + j, none⟩ = some (.int .i64 (m.burnt.S j : Nat)) := hR6'.sure hj
          have z := obj_free hR6'
          have hR7 : IsR (W6.setCell ⟨b, 4 + j, none⟩ (.int .i64 (m.burnt.S k : Nat))).drew b _ := hR6'.setS hj (m.burnt.S k)
          have hK7 : Kp (· = b) w (W6.setCell ⟨b, 4 + j, none⟩ (.int .i64 (m.burnt.S k : Nat))).drew := (hK6.out.trans kp_set).drew
          replace hR7 := Lib.hid hR7
          replace hK7 := Lib.hid hK7
          replace hR6' := Lib.hid hR6'
          go_still_tail 11, (by kernel_rfl)
          change wpList _ _ _ _ _ (World.drew _)
          go_upto_region 8 with (fail)
          clear c2 c3 z
          have hR7' := hR7.out
          generalize (W6.setCell ⟨b, 4 + j, none⟩ (.int .i64 (m.burnt.S k : Nat))).drew = W7 at *
          have c2 := hR7'.text hk
          have c3 : ∀ u, (W7.setCell ⟨b, k, none⟩ u).cell? ⟨b, 4 + k, none⟩ = some (.int .i64 _) := fun u => by
            rw [World.cell?_setCell_other _ _ _ _ (by simp)]; exact hR7'.sure hk
          have z := obj_free hR7'
          have hfin := (hR7'.setB hk []).setS hk 0
          replace hfin := Lib.hid hfin
          replace hR7' := Lib.hid hR7'
          go_wp2_with fail
          go_ret
          exact ⟨rfl, hfin.out, (hK7.out.trans kp_set).trans kp_set⟩
end Go.Proofs.Ytidofjjghbhaaaa
