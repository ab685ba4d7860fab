/- The contracts of the reference's Append, Sync, Cut, Move. -/
import Derived.Test.YtidofjjghbhaaaaH1
namespace Go.Proofs.Ytidofjjghbhaaaa
open Go.RowKit
set_option linter.unusedVariables false

theorem sv_app (l : List UInt8) (s : ByteArray) : Value.string ((⟨l.toArray⟩ : ByteArray) ++ s) = sv (l ++ bl s) := by
  unfold sv
  congr 1

set_option maxHeartbeats 2000000 in
set_option maxRecDepth 100000 in
theorem appR_any (b : Nat) (m : DM) (f : Int) (s : ByteArray) (w : World) (h : IsR w b m) (ok : m.Ok) :
    Calls Try.prog 12 #[.pointer (some ⟨b, 0, none⟩), .int .i64 f, .string s] w fun e w' => e = .returned (.int .i64 (m.app f (bl s)).1) ∧ IsR w' b (m.app f (bl s)).2 ∧ Kp (· = b) w w' := by
  have hH := fun w => no_any f w
  have hB := burnR_any b m w h ok.fuse
  replace hB := Lib.hid hB
  cases hf : isFile f with
  | false =>
    have e1 : m.app f (bl s) = (1, m) := by unfold DM.app; rw [hf]; rfl
    rw [e1]
    rw [hf] at hH
    replace hH := Lib.hid hH
    replace h := Lib.hid h
    clear e1 hf
    go_enter Try.func12, Try.ntmps12
    go_wp2_with (first | (go_at_call 35; refine (hH.out _).mono ?_; rintro e w' ⟨rfl, rfl⟩))
    go_ret
    exact ⟨rfl, h.out, Kp.refl _ _⟩
  | true =>
    obtain ⟨k, rfl, hk⟩ := isFile_nat hf
    rw [hf] at hH
    replace hH := Lib.hid hH
    cases hp : m.pow with
    | false =>
      have e1 : m.app (k : Int) (bl s) = (9, m.burnt) := by unfold DM.app; rw [hf, hp]; rfl
      rw [e1]
      rw [hp] at hB
      replace h := Lib.hid h
      clear e1 hf hp
      go_enter Try.func12, Try.ntmps12
      go_wp2_with (first | (go_at_call 35; refine (hH.out _).mono ?_; rintro e w' ⟨rfl, rfl⟩) | (go_at_call 36; refine (hB.out).mono ?_; rintro e w' ⟨rfl, hR, hK⟩; replace hR := Lib.hid hR; replace hK := Lib.hid hK))
      go_ret
      exact ⟨rfl, hR.out, hK.out⟩
    | true =>
      rw [hp] at hB
      have hL := fun w h => leftR_any b m.burnt w h ok.burnt
      rw [m.burnt_room, m.burnt_tot] at hL
      replace hL := Lib.hid hL
      have hkz : (k : Int) < 4 := by omega
      have ht := ok.tot
      have hr := ok.room
      have hlen := ok.len hk
      by_cases hfit : m.room - m.tot < s.size
      · have e1 : m.app (k : Int) (bl s) = (4, m.burnt) := by unfold DM.app; rw [hf, hp, bl_length]; simp [hfit]
        rw [e1]
        have hd : decide (((m.room - m.tot : Nat) : Int) < (s.size : Int)) = true := decide_eq_true (by omega)
        replace h := Lib.hid h
        clear e1 hf hp ht hr hlen
        generalize m.room - m.tot = left at *
        go_enter Try.func12, Try.ntmps12
        go_wp2_with (first | (go_at_call 35; refine (hH.out _).mono ?_; rintro e w' ⟨rfl, rfl⟩) | (go_at_call 36; refine (hB.out).mono ?_; rintro e w1 ⟨rfl, hR, hK⟩; replace hR := Lib.hid hR; replace hK := Lib.hid hK) | (go_at_call 37; refine (hL.out _ hR.out).mono ?_; rintro e w' ⟨rfl, n, rfl⟩))
        go_ret
        exact ⟨rfl, hR.out, hK.out.drewN n⟩
      · have e1 : m.app (k : Int) (bl s) = (0, m.burnt.put (upd m.burnt.B k (m.B k ++ bl s)) m.burnt.S) := by unfold DM.app; rw [hf, hp, bl_length, m.burnt_B, m.burnt_S]; simp [hfit]
        rw [e1]
        have hd : decide (((m.room - m.tot : Nat) : Int) < (s.size : Int)) = false := decide_eq_false (by omega)
        have hsz : ((⟨(m.B k).toArray⟩ : ByteArray)).size + s.size ≤ 16777216 := by rw [sz, bl_mk]; omega
        have hB2 := m.burnt_B
        replace h := Lib.hid h
        clear e1 hf hp ht hr hlen
        generalize m.room - m.tot = left at *
        go_enter Try.func12, Try.ntmps12
        go_upto_region 7 with (first | (go_at_call 35; refine (hH.out _).mono ?_; rintro e w' ⟨rfl, rfl⟩) | (go_at_call 36; refine (hB.out).mono ?_; rintro e w1 ⟨rfl, hR, hK⟩; replace hR := Lib.hid hR; replace hK := Lib.hid hK) | (go_at_call 37; refine (hL.out _ hR.out).mono ?_; rintro e w' ⟨rfl, n, rfl⟩))
        have hR' : IsR (w1.drewN n) b m.burnt := hR.out
        have hK' : Kp (· = b) w (w1.drewN n) := hK.out.drewN n
        generalize w1.drewN n = W at *
        have c := hR'.text hk
        have z := obj_free hR'
        rw [hB2] at c
        unfold sv at c
        have hfin := hR'.setB hk (m.B k ++ bl s)
        rw [← sv_app] at hfin
        generalize (⟨(m.B k).toArray⟩ : ByteArray) = t at *
        replace hR' := Lib.hid hR'
        replace hK' := Lib.hid hK'
        replace hfin := Lib.hid hfin
        replace hB2 := Lib.hid hB2
        have hadd := fun w => run_string_add_sum (P := Try.prog) w t s (by omega)
        go_still_tail 13, (by kernel_rfl)
        change wpList _ _ _ _ _ (World.drew _)
        go_wp2_with fail
        go_ret
        exact ⟨rfl, hfin.out, (hK'.out.trans kp_set).drew⟩

set_option maxHeartbeats 2000000 in
set_option maxRecDepth 100000 in
theorem syncR_any (b : Nat) (m : DM) (f : Int) (w : World) (h : IsR w b m) (ok : m.Ok) :
    Calls Try.prog 14 #[.pointer (some ⟨b, 0, none⟩), .int .i64 f] w fun e w' => e = .returned (.int .i64 (m.syn f).1) ∧ IsR w' b (m.syn f).2 ∧ Kp (· = b) w w' := by
  have hH := fun w => no_any f w
  have hB := burnR_any b m w h ok.fuse
  replace hB := Lib.hid hB
  cases hf : isFile f with
  | false =>
    have e1 : m.syn f = (1, m) := by unfold DM.syn; rw [hf]; rfl
    rw [e1]
    rw [hf] at hH
    replace hH := Lib.hid hH
    replace h := Lib.hid h
    clear e1 hf
    go_enter Try.func14, Try.ntmps14
    go_wp2_with (first | (go_at_call 35; refine (hH.out _).mono ?_; rintro e w' ⟨rfl, rfl⟩))
    go_ret
    exact ⟨rfl, h.out, Kp.refl _ _⟩
  | true =>
    obtain ⟨k, rfl, hk⟩ := isFile_nat hf
    rw [hf] at hH
    replace hH := Lib.hid hH
    cases hp : m.pow with
    | false =>
      have e1 : m.syn (k : Int) = (9, m.burnt) := by unfold DM.syn; rw [hf, hp]; rfl
      rw [e1]
      rw [hp] at hB
      replace h := Lib.hid h
      clear e1 hf hp
      go_enter Try.func14, Try.ntmps14
      go_wp2_with (first | (go_at_call 35; refine (hH.out _).mono ?_; rintro e w' ⟨rfl, rfl⟩) | (go_at_call 36; refine (hB.out).mono ?_; rintro e w' ⟨rfl, hR, hK⟩; replace hR := Lib.hid hR; replace hK := Lib.hid hK))
      go_ret
      exact ⟨rfl, hR.out, hK.out⟩
    | true =>
      rw [hp] at hB
      have hkz : (k : Int) < 4 := by omega
      have hB2 := m.burnt_B
      have e1 : m.syn (k : Int) = (0, m.burnt.put m.burnt.B (upd m.burnt.S k (m.burnt.B k).length)) := by unfold DM.syn; rw [hf, hp, m.burnt_B, m.burnt_S]; simp
      rw [e1]
      replace h := Lib.hid h
      replace hB2 := Lib.hid hB2
      clear e1 hf hp
      go_enter Try.func14, Try.ntmps14
      go_upto_region 5 with (first | (go_at_call 35; refine (hH.out _).mono ?_; rintro e w' ⟨rfl, rfl⟩) | (go_at_call 36; refine (hB.out).mono ?_; rintro e w1 ⟨rfl, hR, hK⟩; replace hR := Lib.hid hR; replace hK := Lib.hid hK))
      have c := hR.out.text hk
      have c4 := hR.out.sure hk
      have z := obj_free hR.out
      have hsz : (⟨(m.burnt.B k).toArray⟩ : ByteArray).size = (m.burnt.B k).length := by rw [sz, bl_mk]
      have hfin : IsR (w1.setCell ⟨b, 4 + k, none⟩ (.int .i64 ((⟨(m.burnt.B k).toArray⟩ : ByteArray).size : Nat))) b (m.burnt.put m.burnt.B (upd m.burnt.S k (m.burnt.B k).length)) := by
        rw [hsz]; exact hR.out.setS hk (m.burnt.B k).length
      unfold sv at c
      generalize (⟨(m.burnt.B k).toArray⟩ : ByteArray) = t at *
      replace hsz := Lib.hid hsz
      replace hfin := Lib.hid hfin
      go_still_tail 12, (by kernel_rfl)
      change wpList _ _ _ _ _ (World.drew _)
      go_wp2_with fail
      go_ret
      exact ⟨rfl, hfin.out, (hK.out.trans kp_set).drew⟩
end Go.Proofs.Ytidofjjghbhaaaa
