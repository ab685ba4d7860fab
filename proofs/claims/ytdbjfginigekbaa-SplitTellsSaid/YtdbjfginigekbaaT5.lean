/- The contract of the reference's Even, by that of its Shares. -/
import Derived.Test.YtdbjfginigekbaaT4
namespace Go.Proofs.Ytdbjfginigekbaa
open Go.RowKit
set_option linter.unusedVariables false

/-- what the reference's Shares hands back -/
def ShOutR (T : Int) (zs : List Int) (w' : World) (e : Ending) : Prop :=
  (shE T zs ≠ 0 ∧ e = .returned (.tuple #[.slice none 0 0, .int .i64 (shE T zs)])) ∨
  (shE T zs = 0 ∧ ∃ p cap, e = .returned (.tuple #[.slice p zs.length cap, .int .i64 0]) ∧ Seq64 w' p zs.length (shares T zs))
/-- the reference's Shares keeps its contract -/
def SharesR : Prop := ∀ (T : Int) (p : Option Addr) (len cap : Nat) (zs : List Int) (w : World), Amt T → Seq64 w p len zs →
  Calls Try.prog 9 #[.int .i64 T, .slice p len cap] w fun e w' => Below w.heap.size w w' ∧ ShOutR T zs w' e

/-- what the reference's Even hands back -/
def EvOutR (T n : Int) (w' : World) (e : Ending) : Prop :=
  (64 < n ∧ e = .returned (.tuple #[.slice none 0 0, .int .i64 4])) ∨ (n ≤ 64 ∧ (T < 0 ∨ n < 1) ∧ e = .returned (.tuple #[.slice none 0 0, .int .i64 1])) ∨
  (∃ m : Nat, n = m ∧ 1 ≤ m ∧ m ≤ 64 ∧ 0 ≤ T ∧ ShOutR T (List.replicate m 1) w' e)

set_option maxHeartbeats 4000000 in
set_option maxRecDepth 100000 in
theorem evenR_any (hSh : SharesR) (T n : Int) (w : World) (hT : Amt T) (hn : Amt n) :
    Calls Try.prog 11 #[.int .i64 T, .int .i64 n] w fun e w' => Below w.heap.size w w' ∧ EvOutR T n w' e := by
  have hT' := Lib.hid hT
  replace hSh := Lib.hid hSh
  obtain ⟨t0, t1⟩ := hT
  obtain ⟨n0, n1⟩ := hn
  by_cases h64 : 64 < n
  · go_enter Try.func11, Try.ntmps11
    go_wp2_with fail
    go_ret2
    exact ⟨Below.refl _ _, Or.inl ⟨h64, rfl⟩⟩
  · by_cases hneg : T < 0
    · go_enter Try.func11, Try.ntmps11
      go_wp2_with fail
      go_ret2
      exact ⟨Below.refl _ _, Or.inr (Or.inl ⟨by omega, Or.inl hneg, rfl⟩)⟩
    · by_cases h1 : n < 1
      · go_enter Try.func11, Try.ntmps11
        go_wp2_with fail
        go_ret2
        exact ⟨Below.refl _ _, Or.inr (Or.inl ⟨by omega, Or.inr h1, rfl⟩)⟩
      · obtain ⟨m, rfl⟩ := Int.eq_ofNat_of_zero_le (by omega : 0 ≤ n)
        go_enter Try.func11, Try.ntmps11
        go_upto_region 7 with (fail)
        go_loopw [6, 7] (fun o i wr => ∃ k : Nat, k ≤ m ∧ i = .int .i64 k ∧ Grows wr w.heap.size o (List.replicate k 1) ∧ Below w.heap.size w wr) (fun _ i _ => m - (intOf i).toNat)
        case atStart => exact ⟨0, by omega, rfl, Grows.made w w.heap.size (Nat.le_refl _), (Below.refl _ _).alloc (Nat.le_refl _) _⟩
        case round =>
          obtain ⟨k, hk, rfl, hgr, hbel⟩ := hrel
          by_cases hlt : k < m
          · obtain ⟨g, c, w', hrun, hgr', hgw, hlie⟩ := hgr.more hbel.size (by simp; omega) 1
            have hbel' := hgr.bel _ hgw hbel.size
            have e1 : List.replicate k (1 : Int) ++ [1] = List.replicate (k + 1) 1 := by rw [List.replicate_succ']
            rw [e1] at hgr'
            rw [List.length_replicate] at hrun hgr'
            have hkz : (k : Int) < (m : Int) := by omega
            replace hrun := Lib.hid hrun
            replace hgr := Lib.hid hgr
            replace hgr' := Lib.hid hgr'
            replace hbel := Lib.hid hbel
            replace hbel' := Lib.hid hbel'
            clear hgw hlie e1
            go_wp2_with (at_builtin; refine wpList_app rfl _ _ _ _ rfl _ _ _ _ rfl rfl hrun.out ?_)
            exact ⟨⟨k + 1, by omega, by go_num, hgr'.out, hbel.out.trans hbel'.out⟩, by simp [intOf]; omega⟩
          · have hkm : k = m := by omega
            subst hkm
            obtain ⟨p', cap', rfl, hseq⟩ := hgr.seq (ones_amt k) (by simp; omega)
            rw [List.length_replicate] at hseq ⊢
            have hcon := hSh.out T p' k cap' (List.replicate k 1) wr hT'.out hseq
            replace hbel := Lib.hid hbel
            clear hgr hseq
            go_wp2_with (first | (go_at_call 9; (with_reducible refine hcon.mono ?_); rintro e w3 ⟨hb3, hout⟩; rcases hout with ⟨hE, rfl⟩ | ⟨hE, p2, cap2, rfl, hI⟩))
            · go_ret2
              exact ⟨hbel.out.trans (hb3.mono hbel.out.size), Or.inr (Or.inr ⟨k, rfl, by omega, by omega, by omega, Or.inl ⟨hE, rfl⟩⟩)⟩
            · go_ret2
              exact ⟨hbel.out.trans (hb3.mono hbel.out.size), Or.inr (Or.inr ⟨k, rfl, by omega, by omega, by omega, Or.inr ⟨hE, p2, cap2, by rw [List.length_replicate]; rfl, hI⟩⟩)⟩

end Go.Proofs.Ytdbjfginigekbaa
