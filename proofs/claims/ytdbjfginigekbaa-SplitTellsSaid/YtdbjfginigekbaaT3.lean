/- The contract of the reference's Fill. -/
import Derived.Test.YtdbjfginigekbaaT2
namespace Go.Proofs.Ytdbjfginigekbaa
open Go.RowKit
set_option linter.unusedVariables false

set_option maxHeartbeats 4000000 in
set_option maxRecDepth 100000 in
theorem fillR_any (T : Int) (p : Option Addr) (len cap : Nat) (zs : List Int) (w : World) (hT : Amt T) (hs : Seq64 w p len zs) :
    Calls Try.prog 13 #[.int .i64 T, .slice p len cap] w fun e w' => Below w.heap.size w w' ∧ FiOutR T zs w' e := by
  obtain ⟨hl, hz, hm, hcells⟩ := hs
  obtain ⟨hT0, hT1⟩ := hT
  replace hl := Lib.hid hl
  replace hz := Lib.hid hz
  replace hcells := Lib.hid hcells
  by_cases h64 : 64 < len
  · have h64z : (64 : Int) < (len : Int) := by omega
    have hc : chk T zs = 4 := by unfold chk; rw [if_pos (by rw [hl.out]; exact h64)]
    replace hc := Lib.hid hc
    go_enter Try.func13, Try.ntmps13
    go_wp2_with fail
    go_ret3
    exact ⟨Below.refl _ _, Or.inl ⟨by rw [hc.out]; decide, by rw [hc.out]; rfl⟩⟩
  · have h64z : ¬ (64 : Int) < (len : Int) := by omega
    go_enter Try.func13, Try.ntmps13
    go_upto_region 5 with (fail)
    obtain ⟨tb, htb⟩ : ∃ tb, decide (T < 0) = tb := ⟨_, rfl⟩
    rw [htb]
    replace htb := Lib.hid htb
    go_loopw [7, 8] (fun bd i wr => ∃ (k : Nat) (bb : Bool), k ≤ len ∧ i = .int .i64 k ∧ bd = .bool bb ∧ (bb = true ↔ T < 0 ∨ ∃ z ∈ zs.take k, z < 0) ∧ wr = w) (fun _ i _ => len - (intOf i).toNat)
    case atStart => exact ⟨0, tb, by omega, rfl, rfl, by rw [← htb.out]; simp, rfl⟩
    case round =>
      obtain ⟨k, bb, hk, rfl, rfl, hbb, hww⟩ := hrel
      replace hww := hww.symm
      subst hww
      by_cases hlt : k < len
      · obtain ⟨b, off, rfl, hblt, hcc⟩ := hcells.out.resolve_left (by omega)
        have e1 := hcc k hlt
        have htk := take_one zs k (by rw [hl.out]; exact hlt)
        have hkz : (k : Int) < (len : Int) := by omega
        generalize zs.getD k 0 = z at *
        have hnext : ∀ b' : Bool, (b' = true ↔ bb = true ∨ z < 0) → (b' = true ↔ T < 0 ∨ ∃ z ∈ zs.take (k + 1), z < 0) := by
          intro b' h
          rw [h, hbb, htk]
          constructor
          · rintro ((h | ⟨y, hy, hn⟩) | h)
            · exact Or.inl h
            · exact Or.inr ⟨y, by simp [hy], hn⟩
            · exact Or.inr ⟨z, by simp, h⟩
          · rintro (h | ⟨y, hy, hn⟩)
            · exact Or.inl (Or.inl h)
            · rcases List.mem_append.1 hy with h | h
              · exact Or.inl (Or.inr ⟨y, h, hn⟩)
              · simp at h; exact Or.inr (by omega)
        replace hnext := Lib.hid hnext
        replace htk := Lib.hid htk
        replace hcc := Lib.hid hcc
        replace hbb := Lib.hid hbb
        cases bb with
        | true =>
          go_wp2_with fail
          exact ⟨⟨k + 1, true, by omega, by go_num, rfl, hnext.out true (by simp), by first | rfl | trivial⟩, by simp [intOf]; omega⟩
        | false =>
          by_cases hzn : z < 0
          · go_wp2_with fail
            exact ⟨⟨k + 1, true, by omega, by go_num, by simp, hnext.out true (by simp [hzn]), by first | rfl | trivial⟩, by simp [intOf]; omega⟩
          · go_wp2_with fail
            exact ⟨⟨k + 1, false, by omega, by go_num, by first | rfl | (simp; done) | (simp; omega), hnext.out false (by simp; omega), by first | rfl | trivial⟩, by simp [intOf]; omega⟩
      · have hkl : zs.take k = zs := List.take_of_length_le (by rw [hl.out]; omega)
        rw [hkl] at hbb
        cases bb with
        | true =>
          have hc : chk T zs = 1 := by
            unfold chk
            rw [if_neg (by rw [hl.out]; exact h64)]
            rcases hbb.1 rfl with h | h
            · rw [if_pos h]
            · by_cases hneg : T < 0
              · rw [if_pos hneg]
              · rw [if_neg hneg, if_pos h]
          replace hc := Lib.hid hc
          clear hbb hkl
          go_wp2_with fail
          go_ret3
          exact ⟨Below.refl _ _, Or.inl ⟨by rw [hc.out]; decide, by rw [hc.out]; rfl⟩⟩
        | false =>
          have hnb : ¬ (T < 0 ∨ ∃ z ∈ zs, z < 0) := fun h => by have := hbb.2 h; cases this
          have hc : chk T zs = 0 := by
            unfold chk
            rw [if_neg (by rw [hl.out]; exact h64), if_neg (fun h => hnb (Or.inl h)), if_neg (fun h => hnb (Or.inr h))]
          obtain ⟨_, hp0, hz0⟩ := chk_zero hc
          have hleft := left_nonneg T zs hp0 hz0
          have hnn := getD_nonneg hz0
          have hfa : ∀ i, Amt ((fills T zs).getD i 0) := fun i => by
            refine amt_getD _ (fun z hm => ?_) i
            simp only [fills, List.mem_map] at hm
            obtain ⟨k, _, rfl⟩ := hm
            have h1 := hleft k
            have h2 := hnn k
            unfold fillAt
            exact ⟨by omega, by omega⟩
          replace hfa := Lib.hid hfa
          replace hc := Lib.hid hc
          replace hleft := Lib.hid hleft
          replace hnn := Lib.hid hnn
          replace hz0 := Lib.hid hz0
          clear hbb hkl hnb
          have hkn : k = len := by omega
          subst hkn
          clear hk hlt
          go_upto_region 12 with (fail)
          go_loopw [0, 9, 10] (fun tt o i wv => ∃ j : Nat, j ≤ k ∧ i = .int .i64 j ∧ tt = .int .i64 (leftAt T zs j) ∧ Grows wv w.heap.size o (fillL T zs j) ∧ Below w.heap.size w wv) (fun _ _ i _ => k - (intOf i).toNat)
          case atStart => exact ⟨0, by omega, rfl, rfl, Grows.made w w.heap.size (Nat.le_refl _), (Below.refl _ _).alloc (Nat.le_refl _) _⟩
          case round =>
            obtain ⟨j, hj, rfl, rfl, hgr, hbel⟩ := hrel
            by_cases hlt : j < k
            · obtain ⟨b, off, rfl, hblt, hcc⟩ := hcells.out.resolve_left (by omega)
              have e1 : wr.cell? ⟨b, off + j, none⟩ = some (.int .i64 (zs.getD j 0)) := (hbel.cell (p := ⟨b, off + j, none⟩) hblt).trans (hcc j hlt)
              obtain ⟨l0, l1⟩ := hleft.out j
              have z0 := hnn.out j
              have z1 := (hz.out j).2
              obtain ⟨g, c, w', hrun, hgr', hgw, hlie⟩ := hgr.more hbel.size (by rw [fillL_len]; omega) (fillAt T zs j)
              have hbel' := hgr.bel _ hgw hbel.size
              rw [fillL_succ] at hgr'
              rw [fillL_len] at hrun hgr'
              have e2 : leftAt T zs (j + 1) = leftAt T zs j - fillAt T zs j := rfl
              have e3 : min (zs.getD j 0) (leftAt T zs j) = fillAt T zs j := rfl
              have e4 : w'.cell? ⟨b, off + j, none⟩ = some (.int .i64 (zs.getD j 0)) := (hbel'.cell (p := ⟨b, off + j, none⟩) hblt).trans e1
              generalize hf : fillAt T zs j = f at *
              generalize zs.getD j 0 = z at *
              generalize leftAt T zs j = lf at *
              have hjz : (j : Int) < (k : Int) := by omega
              have hw2 : wrap64 (lf - f) = lf - f := by unfold wrap64; omega
              replace hrun := Lib.hid hrun
              replace hgr := Lib.hid hgr
              replace hgr' := Lib.hid hgr'
              replace hbel := Lib.hid hbel
              replace hbel' := Lib.hid hbel'
              replace hcc := Lib.hid hcc
              replace e2 := Lib.hid e2
              replace hf := Lib.hid hf
              clear hgw hlie
              go_wp2_with (at_builtin; refine wpList_app rfl _ _ _ _ rfl _ _ _ _ rfl rfl hrun.out ?_)
              exact ⟨⟨j + 1, by omega, by go_num, by rw [e2.out], hgr'.out, hbel.out.trans hbel'.out⟩, by simp [intOf]; omega⟩
            · have hjk : j = k := by omega
              subst hjk
              have hfl : fillL T zs j = fills T zs := by unfold fillL fills; rw [hl.out]
              rw [hfl] at hgr
              obtain ⟨p', cap', rfl, hseq⟩ := hgr.seq hfa.out (by rw [fills_len, hl.out]; omega)
              rw [fills_len] at hseq ⊢
              rw [hl.out] at hseq ⊢
              replace hseq := Lib.hid hseq
              replace hbel := Lib.hid hbel
              clear hgr hfl
              go_wp2_with fail
              go_ret3
              refine ⟨hbel.out, Or.inr ⟨hc.out, p', cap', ?_, ?_⟩⟩
              · rw [hl.out]; rfl
              · rw [hl.out]; exact hseq.out

end Go.Proofs.Ytdbjfginigekbaa
