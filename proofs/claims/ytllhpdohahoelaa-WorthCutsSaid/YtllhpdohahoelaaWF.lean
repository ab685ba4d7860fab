/- The contracts of worth's Moved and reckon. -/
import Derived.Test.YtllhpdohahoelaaWE
namespace Go.Proofs.Ytllhpdohahoelaa
open Go.RowKit
set_option linter.unusedVariables false

theorem obj_ne {w : World} {x y : Nat} {cs ds : Array Value} {t u : TypeId} {fr fs : Nat × Nat} (hx : w.heap[x]? = some (.cells cs t fr)) (hy : w.heap[y]? = some (.cells ds u fs)) (h : t ≠ u) : x ≠ y := by
  rintro rfl
  rw [hx] at hy
  injection hy with hy
  injection hy with _ e _
  exact h e
/-- a member's balances, by the ledger -/
def LM.row (l : LM) (m : Nat) : Nat → Int := fun c => l.get (m : Nat) (c : Nat)

set_option maxHeartbeats 4000000 in
set_option maxRecDepth 100000 in
theorem moved_v {PF P : Nat → Prop} {b lb gT cT gM cM gB cB : Nat} {x : WM} {V : Nat → SV} {l : LM} (i : Nat) (w : World) (hL : PLv PF w lb l gB cB) (h : WPv P w b lb x V gT cT gM cM) (hd : ∀ j, PF j → ¬ P j) (hi : i < x.nm) (hin : ∀ c, In64 (l.row i c)) :
    Calls Try.prog 33 #[.pointer (some ⟨b, 0, none⟩), .int .i64 (i : Int)] w fun e w' => e = .returned (.tuple #[]) ∧ MR w' gM (updV V i (stV x.cs (l.row i))) x.nm ∧ Kp (fun j => j = gM) w w' := by
  have hH := whas_any (i : Int) w h
  rw [show x.has (i : Int) = true by unfold WM.has; simp; omega] at hH
  have hz : (i : Int) < (x.nm : Int) := by omega
  have c0 := h.c0
  have c1 := h.c1
  have c2 := h.c2
  have hbl := obj_lt h.obj
  have hbM : b ≠ gM := by obtain ⟨ds, hy, _⟩ := h.rows; exact obj_ne h.obj hy (by decide)
  have hlM : lb ≠ gM := fun e => hd _ hL.own.1 (e ▸ h.own.2.2)
  have hBM : gB ≠ gM := fun e => hd _ hL.own.2 (e ▸ h.own.2.2)
  have hll := obj_lt hL.obj
  have hBl := hL.bal.lt
  replace hH := Lib.hid hH
  replace hL := Lib.hid hL
  replace h := Lib.hid h
  replace hd := Lib.hid hd
  replace hin := Lib.hid hin
  go_enter Try.func33, Try.ntmps33
  go_upto_region 1 with (first | (go_at_call 39; (with_reducible refine hH.out.mono ?_); rintro e w1 ⟨rfl, rfl⟩))
  refine wp_region_closed (by kernel_rfl) (fun L az wz => ∃ v7 v8 v9 v10 v11 v12 v13 v14 v15 v16 v17 v18 v19 v20 v21 v22 v23 : Value, az = ({ tmps := (.pointer (some ⟨b, 0, none⟩) :: .int .i64 (i : Int) :: undef :: undef :: .pointer (some ⟨b, 0, none⟩) :: .int .i64 (i : Int) :: .bool true :: v7 :: v8 :: v9 :: v10 :: v11 :: v12 :: v13 :: v14 :: v15 :: v16 :: v17 :: v18 :: v19 :: v20 :: v21 :: v22 :: v23 :: []).toArray, defers := [] } : Act) ∧ (∃ V2 : Nat → SV, MR wz gM V2 x.nm ∧ (L 17 = true → V2 = updV V i (stV x.cs (l.row i))) ∧ (L 17 = false → V2 = V)) ∧ (Kp (fun j => j = gM) w wz) ∧ (L 0 = true → v7 = .pointer (some ⟨b, 0, none⟩)) ∧ (L 1 = true → v8 = .pointer (some ⟨b, 0, none⟩)) ∧ (L 2 = true → v9 = .pointer (some ⟨b, 2, none⟩)) ∧ (L 3 = true → v10 = Value.slice (some ⟨gM, 0, none⟩) x.nm cM) ∧ (L 4 = true → v11 = .int .i64 (i : Int)) ∧ (L 5 = true → v12 = .pointer (some ⟨b, 0, none⟩)) ∧ (L 6 = true → v13 = .pointer (some ⟨b, 0, none⟩)) ∧ (L 7 = true → v14 = .pointer (some ⟨b, 1, none⟩)) ∧ (L 8 = true → v15 = .pointer (some ⟨lb, 0, none⟩)) ∧ (L 9 = true → v16 = .int .i64 (i : Int)) ∧ (L 10 = true → v17 = .agg (r8 (l.row i))) ∧ (L 11 = true → v18 = .pointer (some ⟨b, 0, none⟩)) ∧ (L 12 = true → v19 = .pointer (some ⟨b, 0, none⟩)) ∧ (L 13 = true → v20 = .pointer (some ⟨b, 0, none⟩)) ∧ (L 14 = true → v21 = Value.slice (some ⟨gT, 0, none⟩) x.cs.length cT) ∧ (L 15 = true → v22 = .agg (s12V (stV x.cs (l.row i)))) ∧ (L 16 = true → v23 = .pointer (some ⟨gM, i * 12, none⟩))) (by kernel_rfl) ?_ ?_ ?_
  · exact ⟨_, _, _, _, _, _, _, _, _, _, _, _, _, _, _, _, _, rfl, ⟨V, h.out.rows.at rfl, nofun, fun _ => rfl⟩, (Kp.refl _ _).drew, nofun, nofun, nofun, nofun, nofun, nofun, nofun, nofun, nofun, nofun, nofun, nofun, nofun, nofun, nofun, nofun, nofun⟩
  · intro L az wz iz hiz hni hI hdep hcl
    obtain ⟨v7, v8, v9, v10, v11, v12, v13, v14, v15, v16, v17, v18, v19, v20, v21, v22, v23, rfl, hV, hKp, h0, h1, h2, h3, h4, h5, h6, h7, h8, h9, h10, h11, h12, h13, h14, h15, h16⟩ := hI
    have hcase : iz = 0 ∨ iz = 1 ∨ iz = 2 ∨ iz = 3 ∨ iz = 4 ∨ iz = 5 ∨ iz = 6 ∨ iz = 7 ∨ iz = 8 ∨ iz = 9 ∨ iz = 10 ∨ iz = 11 ∨ iz = 12 ∨ iz = 13 ∨ iz = 14 ∨ iz = 15 ∨ iz = 16 ∨ iz = 17 := by
      have hi2 : iz < 18 := hiz
      omega
    rcases hcase with rfl | rfl | rfl | rfl | rfl | rfl | rfl | rfl | rfl | rfl | rfl | rfl | rfl | rfl | rfl | rfl | rfl | rfl
    · -- 0
      obtain ⟨V2, hv, h17, hn⟩ := hV
      refine wpOp_step rfl fun Kz hKz => ?_
      go_simp
      exact hKz _ _ ⟨_, _, _, _, _, _, _, _, _, _, _, _, _, _, _, _, _, rfl, ⟨V2, hv, fun e => h17 (add_ne e (by decide)), fun e => hn (by cases h : L 17 with | false => rfl | true => rw [add_old h] at e; cases e)⟩, hKp, fun _ => rfl, fun e => h1 (add_ne e (by decide)), fun e => h2 (add_ne e (by decide)), fun e => h3 (add_ne e (by decide)), fun e => h4 (add_ne e (by decide)), fun e => h5 (add_ne e (by decide)), fun e => h6 (add_ne e (by decide)), fun e => h7 (add_ne e (by decide)), fun e => h8 (add_ne e (by decide)), fun e => h9 (add_ne e (by decide)), fun e => h10 (add_ne e (by decide)), fun e => h11 (add_ne e (by decide)), fun e => h12 (add_ne e (by decide)), fun e => h13 (add_ne e (by decide)), fun e => h14 (add_ne e (by decide)), fun e => h15 (add_ne e (by decide)), fun e => h16 (add_ne e (by decide))⟩
    · -- 1
      obtain ⟨V2, hv, h17, hn⟩ := hV
      have e0 := h0 (hdep 0 (by decide +kernel))
      subst e0
      refine wpOp_step rfl fun Kz hKz => ?_
      go_simp
      exact hKz _ _ ⟨_, _, _, _, _, _, _, _, _, _, _, _, _, _, _, _, _, rfl, ⟨V2, hv, fun e => h17 (add_ne e (by decide)), fun e => hn (by cases h : L 17 with | false => rfl | true => rw [add_old h] at e; cases e)⟩, hKp, fun e => h0 (add_ne e (by decide)), fun _ => rfl, fun e => h2 (add_ne e (by decide)), fun e => h3 (add_ne e (by decide)), fun e => h4 (add_ne e (by decide)), fun e => h5 (add_ne e (by decide)), fun e => h6 (add_ne e (by decide)), fun e => h7 (add_ne e (by decide)), fun e => h8 (add_ne e (by decide)), fun e => h9 (add_ne e (by decide)), fun e => h10 (add_ne e (by decide)), fun e => h11 (add_ne e (by decide)), fun e => h12 (add_ne e (by decide)), fun e => h13 (add_ne e (by decide)), fun e => h14 (add_ne e (by decide)), fun e => h15 (add_ne e (by decide)), fun e => h16 (add_ne e (by decide))⟩
    · -- 2
      obtain ⟨V2, hv, h17, hn⟩ := hV
      have e1 := h1 (hdep 1 (by decide +kernel))
      subst e1
      refine wpOp_step rfl fun Kz hKz => ?_
      go_simp
      exact hKz _ _ ⟨_, _, _, _, _, _, _, _, _, _, _, _, _, _, _, _, _, rfl, ⟨V2, hv, fun e => h17 (add_ne e (by decide)), fun e => hn (by cases h : L 17 with | false => rfl | true => rw [add_old h] at e; cases e)⟩, hKp, fun e => h0 (add_ne e (by decide)), fun e => h1 (add_ne e (by decide)), fun _ => rfl, fun e => h3 (add_ne e (by decide)), fun e => h4 (add_ne e (by decide)), fun e => h5 (add_ne e (by decide)), fun e => h6 (add_ne e (by decide)), fun e => h7 (add_ne e (by decide)), fun e => h8 (add_ne e (by decide)), fun e => h9 (add_ne e (by decide)), fun e => h10 (add_ne e (by decide)), fun e => h11 (add_ne e (by decide)), fun e => h12 (add_ne e (by decide)), fun e => h13 (add_ne e (by decide)), fun e => h14 (add_ne e (by decide)), fun e => h15 (add_ne e (by decide)), fun e => h16 (add_ne e (by decide))⟩
    · -- 3
      obtain ⟨V2, hv, h17, hn⟩ := hV
      have e2 := h2 (hdep 2 (by decide +kernel))
      subst e2
      have z := hKp.cell c2 (show ¬ b = gM from hbM)
      refine wpOp_step rfl fun Kz hKz => ?_
      go_simp
      exact hKz _ _ ⟨_, _, _, _, _, _, _, _, _, _, _, _, _, _, _, _, _, rfl, ⟨V2, hv, fun e => h17 (add_ne e (by decide)), fun e => hn (by cases h : L 17 with | false => rfl | true => rw [add_old h] at e; cases e)⟩, hKp, fun e => h0 (add_ne e (by decide)), fun e => h1 (add_ne e (by decide)), fun e => h2 (add_ne e (by decide)), fun _ => rfl, fun e => h4 (add_ne e (by decide)), fun e => h5 (add_ne e (by decide)), fun e => h6 (add_ne e (by decide)), fun e => h7 (add_ne e (by decide)), fun e => h8 (add_ne e (by decide)), fun e => h9 (add_ne e (by decide)), fun e => h10 (add_ne e (by decide)), fun e => h11 (add_ne e (by decide)), fun e => h12 (add_ne e (by decide)), fun e => h13 (add_ne e (by decide)), fun e => h14 (add_ne e (by decide)), fun e => h15 (add_ne e (by decide)), fun e => h16 (add_ne e (by decide))⟩
    · -- 4
      obtain ⟨V2, hv, h17, hn⟩ := hV
      refine wpOp_step rfl fun Kz hKz => ?_
      go_simp
      exact hKz _ _ ⟨_, _, _, _, _, _, _, _, _, _, _, _, _, _, _, _, _, rfl, ⟨V2, hv, fun e => h17 (add_ne e (by decide)), fun e => hn (by cases h : L 17 with | false => rfl | true => rw [add_old h] at e; cases e)⟩, hKp, fun e => h0 (add_ne e (by decide)), fun e => h1 (add_ne e (by decide)), fun e => h2 (add_ne e (by decide)), fun e => h3 (add_ne e (by decide)), fun _ => rfl, fun e => h5 (add_ne e (by decide)), fun e => h6 (add_ne e (by decide)), fun e => h7 (add_ne e (by decide)), fun e => h8 (add_ne e (by decide)), fun e => h9 (add_ne e (by decide)), fun e => h10 (add_ne e (by decide)), fun e => h11 (add_ne e (by decide)), fun e => h12 (add_ne e (by decide)), fun e => h13 (add_ne e (by decide)), fun e => h14 (add_ne e (by decide)), fun e => h15 (add_ne e (by decide)), fun e => h16 (add_ne e (by decide))⟩
    · -- 5
      obtain ⟨V2, hv, h17, hn⟩ := hV
      refine wpOp_step rfl fun Kz hKz => ?_
      go_simp
      exact hKz _ _ ⟨_, _, _, _, _, _, _, _, _, _, _, _, _, _, _, _, _, rfl, ⟨V2, hv, fun e => h17 (add_ne e (by decide)), fun e => hn (by cases h : L 17 with | false => rfl | true => rw [add_old h] at e; cases e)⟩, hKp, fun e => h0 (add_ne e (by decide)), fun e => h1 (add_ne e (by decide)), fun e => h2 (add_ne e (by decide)), fun e => h3 (add_ne e (by decide)), fun e => h4 (add_ne e (by decide)), fun _ => rfl, fun e => h6 (add_ne e (by decide)), fun e => h7 (add_ne e (by decide)), fun e => h8 (add_ne e (by decide)), fun e => h9 (add_ne e (by decide)), fun e => h10 (add_ne e (by decide)), fun e => h11 (add_ne e (by decide)), fun e => h12 (add_ne e (by decide)), fun e => h13 (add_ne e (by decide)), fun e => h14 (add_ne e (by decide)), fun e => h15 (add_ne e (by decide)), fun e => h16 (add_ne e (by decide))⟩
    · -- 6
      obtain ⟨V2, hv, h17, hn⟩ := hV
      have e5 := h5 (hdep 5 (by decide +kernel))
      subst e5
      refine wpOp_step rfl fun Kz hKz => ?_
      go_simp
      exact hKz _ _ ⟨_, _, _, _, _, _, _, _, _, _, _, _, _, _, _, _, _, rfl, ⟨V2, hv, fun e => h17 (add_ne e (by decide)), fun e => hn (by cases h : L 17 with | false => rfl | true => rw [add_old h] at e; cases e)⟩, hKp, fun e => h0 (add_ne e (by decide)), fun e => h1 (add_ne e (by decide)), fun e => h2 (add_ne e (by decide)), fun e => h3 (add_ne e (by decide)), fun e => h4 (add_ne e (by decide)), fun e => h5 (add_ne e (by decide)), fun _ => rfl, fun e => h7 (add_ne e (by decide)), fun e => h8 (add_ne e (by decide)), fun e => h9 (add_ne e (by decide)), fun e => h10 (add_ne e (by decide)), fun e => h11 (add_ne e (by decide)), fun e => h12 (add_ne e (by decide)), fun e => h13 (add_ne e (by decide)), fun e => h14 (add_ne e (by decide)), fun e => h15 (add_ne e (by decide)), fun e => h16 (add_ne e (by decide))⟩
    · -- 7
      obtain ⟨V2, hv, h17, hn⟩ := hV
      have e6 := h6 (hdep 6 (by decide +kernel))
      subst e6
      refine wpOp_step rfl fun Kz hKz => ?_
      go_simp
      exact hKz _ _ ⟨_, _, _, _, _, _, _, _, _, _, _, _, _, _, _, _, _, rfl, ⟨V2, hv, fun e => h17 (add_ne e (by decide)), fun e => hn (by cases h : L 17 with | false => rfl | true => rw [add_old h] at e; cases e)⟩, hKp, fun e => h0 (add_ne e (by decide)), fun e => h1 (add_ne e (by decide)), fun e => h2 (add_ne e (by decide)), fun e => h3 (add_ne e (by decide)), fun e => h4 (add_ne e (by decide)), fun e => h5 (add_ne e (by decide)), fun e => h6 (add_ne e (by decide)), fun _ => rfl, fun e => h8 (add_ne e (by decide)), fun e => h9 (add_ne e (by decide)), fun e => h10 (add_ne e (by decide)), fun e => h11 (add_ne e (by decide)), fun e => h12 (add_ne e (by decide)), fun e => h13 (add_ne e (by decide)), fun e => h14 (add_ne e (by decide)), fun e => h15 (add_ne e (by decide)), fun e => h16 (add_ne e (by decide))⟩
    · -- 8
      obtain ⟨V2, hv, h17, hn⟩ := hV
      have e7 := h7 (hdep 7 (by decide +kernel))
      subst e7
      have z := hKp.cell c1 (show ¬ b = gM from hbM)
      refine wpOp_step rfl fun Kz hKz => ?_
      go_simp
      exact hKz _ _ ⟨_, _, _, _, _, _, _, _, _, _, _, _, _, _, _, _, _, rfl, ⟨V2, hv, fun e => h17 (add_ne e (by decide)), fun e => hn (by cases h : L 17 with | false => rfl | true => rw [add_old h] at e; cases e)⟩, hKp, fun e => h0 (add_ne e (by decide)), fun e => h1 (add_ne e (by decide)), fun e => h2 (add_ne e (by decide)), fun e => h3 (add_ne e (by decide)), fun e => h4 (add_ne e (by decide)), fun e => h5 (add_ne e (by decide)), fun e => h6 (add_ne e (by decide)), fun e => h7 (add_ne e (by decide)), fun _ => rfl, fun e => h9 (add_ne e (by decide)), fun e => h10 (add_ne e (by decide)), fun e => h11 (add_ne e (by decide)), fun e => h12 (add_ne e (by decide)), fun e => h13 (add_ne e (by decide)), fun e => h14 (add_ne e (by decide)), fun e => h15 (add_ne e (by decide)), fun e => h16 (add_ne e (by decide))⟩
    · -- 9
      obtain ⟨V2, hv, h17, hn⟩ := hV
      refine wpOp_step rfl fun Kz hKz => ?_
      go_simp
      exact hKz _ _ ⟨_, _, _, _, _, _, _, _, _, _, _, _, _, _, _, _, _, rfl, ⟨V2, hv, fun e => h17 (add_ne e (by decide)), fun e => hn (by cases h : L 17 with | false => rfl | true => rw [add_old h] at e; cases e)⟩, hKp, fun e => h0 (add_ne e (by decide)), fun e => h1 (add_ne e (by decide)), fun e => h2 (add_ne e (by decide)), fun e => h3 (add_ne e (by decide)), fun e => h4 (add_ne e (by decide)), fun e => h5 (add_ne e (by decide)), fun e => h6 (add_ne e (by decide)), fun e => h7 (add_ne e (by decide)), fun e => h8 (add_ne e (by decide)), fun _ => rfl, fun e => h10 (add_ne e (by decide)), fun e => h11 (add_ne e (by decide)), fun e => h12 (add_ne e (by decide)), fun e => h13 (add_ne e (by decide)), fun e => h14 (add_ne e (by decide)), fun e => h15 (add_ne e (by decide)), fun e => h16 (add_ne e (by decide))⟩
    · -- 10
      obtain ⟨V2, hv, h17, hn⟩ := hV
      have e8 := h8 (hdep 8 (by decide +kernel))
      subst e8
      have e9 := h9 (hdep 9 (by decide +kernel))
      subst e9
      have hc := account_any (i : Int) wz (hL.out.kept fun j hj hp => hKp.block j hj fun e => hd.out j hp (e ▸ h.out.own.2.2))
      rw [show r8 (fun c => l.get (i : Int) (c : Nat)) = r8 (l.row i) from rfl] at hc
      replace hc := Lib.hid hc
      refine wpOp_step rfl fun Kz hKz => ?_
      go_simp
      go_at_call 62
      refine (hc.out).mono ?_
      rintro e w1 ⟨rfl, hb1⟩
      have hv2 := hv.at (hb1.block _ hv.lt)
      have hK2 := hKp.then (Kp.of_below (F := fun j => j = gM) hb1) (fun j hj e => e)
      replace hv2 := Lib.hid hv2
      go_simp
      exact hKz _ _ ⟨_, _, _, _, _, _, _, _, _, _, _, _, _, _, _, _, _, rfl, ⟨V2, hv2.out, fun e => h17 (add_ne e (by decide)), fun e => hn (by cases h : L 17 with | false => rfl | true => rw [add_old h] at e; cases e)⟩, hK2, fun e => h0 (add_ne e (by decide)), fun e => h1 (add_ne e (by decide)), fun e => h2 (add_ne e (by decide)), fun e => h3 (add_ne e (by decide)), fun e => h4 (add_ne e (by decide)), fun e => h5 (add_ne e (by decide)), fun e => h6 (add_ne e (by decide)), fun e => h7 (add_ne e (by decide)), fun e => h8 (add_ne e (by decide)), fun e => h9 (add_ne e (by decide)), fun _ => rfl, fun e => h11 (add_ne e (by decide)), fun e => h12 (add_ne e (by decide)), fun e => h13 (add_ne e (by decide)), fun e => h14 (add_ne e (by decide)), fun e => h15 (add_ne e (by decide)), fun e => h16 (add_ne e (by decide))⟩
    · -- 11
      obtain ⟨V2, hv, h17, hn⟩ := hV
      refine wpOp_step rfl fun Kz hKz => ?_
      go_simp
      exact hKz _ _ ⟨_, _, _, _, _, _, _, _, _, _, _, _, _, _, _, _, _, rfl, ⟨V2, hv, fun e => h17 (add_ne e (by decide)), fun e => hn (by cases h : L 17 with | false => rfl | true => rw [add_old h] at e; cases e)⟩, hKp, fun e => h0 (add_ne e (by decide)), fun e => h1 (add_ne e (by decide)), fun e => h2 (add_ne e (by decide)), fun e => h3 (add_ne e (by decide)), fun e => h4 (add_ne e (by decide)), fun e => h5 (add_ne e (by decide)), fun e => h6 (add_ne e (by decide)), fun e => h7 (add_ne e (by decide)), fun e => h8 (add_ne e (by decide)), fun e => h9 (add_ne e (by decide)), fun e => h10 (add_ne e (by decide)), fun _ => rfl, fun e => h12 (add_ne e (by decide)), fun e => h13 (add_ne e (by decide)), fun e => h14 (add_ne e (by decide)), fun e => h15 (add_ne e (by decide)), fun e => h16 (add_ne e (by decide))⟩
    · -- 12
      obtain ⟨V2, hv, h17, hn⟩ := hV
      have e11 := h11 (hdep 11 (by decide +kernel))
      subst e11
      refine wpOp_step rfl fun Kz hKz => ?_
      go_simp
      exact hKz _ _ ⟨_, _, _, _, _, _, _, _, _, _, _, _, _, _, _, _, _, rfl, ⟨V2, hv, fun e => h17 (add_ne e (by decide)), fun e => hn (by cases h : L 17 with | false => rfl | true => rw [add_old h] at e; cases e)⟩, hKp, fun e => h0 (add_ne e (by decide)), fun e => h1 (add_ne e (by decide)), fun e => h2 (add_ne e (by decide)), fun e => h3 (add_ne e (by decide)), fun e => h4 (add_ne e (by decide)), fun e => h5 (add_ne e (by decide)), fun e => h6 (add_ne e (by decide)), fun e => h7 (add_ne e (by decide)), fun e => h8 (add_ne e (by decide)), fun e => h9 (add_ne e (by decide)), fun e => h10 (add_ne e (by decide)), fun e => h11 (add_ne e (by decide)), fun _ => rfl, fun e => h13 (add_ne e (by decide)), fun e => h14 (add_ne e (by decide)), fun e => h15 (add_ne e (by decide)), fun e => h16 (add_ne e (by decide))⟩
    · -- 13
      obtain ⟨V2, hv, h17, hn⟩ := hV
      have e12 := h12 (hdep 12 (by decide +kernel))
      subst e12
      refine wpOp_step rfl fun Kz hKz => ?_
      go_simp
      exact hKz _ _ ⟨_, _, _, _, _, _, _, _, _, _, _, _, _, _, _, _, _, rfl, ⟨V2, hv, fun e => h17 (add_ne e (by decide)), fun e => hn (by cases h : L 17 with | false => rfl | true => rw [add_old h] at e; cases e)⟩, hKp, fun e => h0 (add_ne e (by decide)), fun e => h1 (add_ne e (by decide)), fun e => h2 (add_ne e (by decide)), fun e => h3 (add_ne e (by decide)), fun e => h4 (add_ne e (by decide)), fun e => h5 (add_ne e (by decide)), fun e => h6 (add_ne e (by decide)), fun e => h7 (add_ne e (by decide)), fun e => h8 (add_ne e (by decide)), fun e => h9 (add_ne e (by decide)), fun e => h10 (add_ne e (by decide)), fun e => h11 (add_ne e (by decide)), fun e => h12 (add_ne e (by decide)), fun _ => rfl, fun e => h14 (add_ne e (by decide)), fun e => h15 (add_ne e (by decide)), fun e => h16 (add_ne e (by decide))⟩
    · -- 14
      obtain ⟨V2, hv, h17, hn⟩ := hV
      have e13 := h13 (hdep 13 (by decide +kernel))
      subst e13
      have z := hKp.cell c0 (show ¬ b = gM from hbM)
      refine wpOp_step rfl fun Kz hKz => ?_
      go_simp
      exact hKz _ _ ⟨_, _, _, _, _, _, _, _, _, _, _, _, _, _, _, _, _, rfl, ⟨V2, hv, fun e => h17 (add_ne e (by decide)), fun e => hn (by cases h : L 17 with | false => rfl | true => rw [add_old h] at e; cases e)⟩, hKp, fun e => h0 (add_ne e (by decide)), fun e => h1 (add_ne e (by decide)), fun e => h2 (add_ne e (by decide)), fun e => h3 (add_ne e (by decide)), fun e => h4 (add_ne e (by decide)), fun e => h5 (add_ne e (by decide)), fun e => h6 (add_ne e (by decide)), fun e => h7 (add_ne e (by decide)), fun e => h8 (add_ne e (by decide)), fun e => h9 (add_ne e (by decide)), fun e => h10 (add_ne e (by decide)), fun e => h11 (add_ne e (by decide)), fun e => h12 (add_ne e (by decide)), fun e => h13 (add_ne e (by decide)), fun _ => rfl, fun e => h15 (add_ne e (by decide)), fun e => h16 (add_ne e (by decide))⟩
    · -- 15
      obtain ⟨V2, hv, h17, hn⟩ := hV
      have e10 := h10 (hdep 10 (by decide +kernel))
      subst e10
      have e14 := h14 (hdep 14 (by decide +kernel))
      subst e14
      have hTz := h.out.tab.at h.out.tlt hKp.size (hKp.block _ h.out.tlt h.out.apart)
      have hc := by_any (l.row i) (some ⟨gT, 0, none⟩) x.cs.length cT x.cs wz hTz h.out.n8 h.out.oob hin.out
      rw [show s12 (l.row i) (netF x.cs (l.row i) x.cs.length 0 0) (shortF x.cs (l.row i) x.cs.length 0 0) = s12V (stV x.cs (l.row i)) from rfl] at hc
      replace hTz := Lib.hid hTz
      replace hc := Lib.hid hc
      refine wpOp_step rfl fun Kz hKz => ?_
      go_simp
      go_at_call 43
      refine (hc.out).mono ?_
      rintro e w1 ⟨rfl, hb1⟩
      have hv2 := hv.at (hb1.block _ hv.lt)
      have hK2 := hKp.then (Kp.of_below (F := fun j => j = gM) hb1) (fun j hj e => e)
      replace hv2 := Lib.hid hv2
      go_simp
      exact hKz _ _ ⟨_, _, _, _, _, _, _, _, _, _, _, _, _, _, _, _, _, rfl, ⟨V2, hv2.out, fun e => h17 (add_ne e (by decide)), fun e => hn (by cases h : L 17 with | false => rfl | true => rw [add_old h] at e; cases e)⟩, hK2, fun e => h0 (add_ne e (by decide)), fun e => h1 (add_ne e (by decide)), fun e => h2 (add_ne e (by decide)), fun e => h3 (add_ne e (by decide)), fun e => h4 (add_ne e (by decide)), fun e => h5 (add_ne e (by decide)), fun e => h6 (add_ne e (by decide)), fun e => h7 (add_ne e (by decide)), fun e => h8 (add_ne e (by decide)), fun e => h9 (add_ne e (by decide)), fun e => h10 (add_ne e (by decide)), fun e => h11 (add_ne e (by decide)), fun e => h12 (add_ne e (by decide)), fun e => h13 (add_ne e (by decide)), fun e => h14 (add_ne e (by decide)), fun _ => rfl, fun e => h16 (add_ne e (by decide))⟩
    · -- 16
      obtain ⟨V2, hv, h17, hn⟩ := hV
      have e3 := h3 (hdep 3 (by decide +kernel))
      subst e3
      have e4 := h4 (hdep 4 (by decide +kernel))
      subst e4
      refine wpOp_step rfl fun Kz hKz => ?_
      go_simp
      exact hKz _ _ ⟨_, _, _, _, _, _, _, _, _, _, _, _, _, _, _, _, _, rfl, ⟨V2, hv, fun e => h17 (add_ne e (by decide)), fun e => hn (by cases h : L 17 with | false => rfl | true => rw [add_old h] at e; cases e)⟩, hKp, fun e => h0 (add_ne e (by decide)), fun e => h1 (add_ne e (by decide)), fun e => h2 (add_ne e (by decide)), fun e => h3 (add_ne e (by decide)), fun e => h4 (add_ne e (by decide)), fun e => h5 (add_ne e (by decide)), fun e => h6 (add_ne e (by decide)), fun e => h7 (add_ne e (by decide)), fun e => h8 (add_ne e (by decide)), fun e => h9 (add_ne e (by decide)), fun e => h10 (add_ne e (by decide)), fun e => h11 (add_ne e (by decide)), fun e => h12 (add_ne e (by decide)), fun e => h13 (add_ne e (by decide)), fun e => h14 (add_ne e (by decide)), fun e => h15 (add_ne e (by decide)), fun _ => rfl⟩
    · -- 17
      obtain ⟨V2, hv, h17, hn⟩ := hV
      have e16 := h16 (hdep 16 (by decide +kernel))
      subst e16
      have e15 := h15 (hdep 15 (by decide +kernel))
      subst e15
      have eV := hn hni
      subst eV
      obtain ⟨y0, y1, y2, y3, y4, y5, y6, y7, y8, y9, y10, y11⟩ := hv.cells hi
      have hz2 := hv.free
      have hv3 := hv.set hi (stV x.cs (l.row i))
      have hK3 := hKp.st12 (p := gM) (.inl rfl) (i * 12) (stV x.cs (l.row i))
      generalize hsv : stV x.cs (l.row i) = sv at *
      replace hsv := Lib.hid hsv
      replace hv := Lib.hid hv
      replace hv3 := Lib.hid hv3
      replace hK3 := Lib.hid hK3
      unfold s12V s12
      refine wpOp_step rfl fun Kz hKz => ?_
      go_simp
      exact hKz _ _ ⟨_, _, _, _, _, _, _, _, _, _, _, _, _, _, _, _, _, rfl, ⟨_, hv3.out, fun _ => rfl, fun e => by rw [show add L 17 17 = true from add_iff.2 (.inr rfl)] at e; cases e⟩, hK3.out, fun e => h0 (add_ne e (by decide)), fun e => h1 (add_ne e (by decide)), fun e => h2 (add_ne e (by decide)), fun e => h3 (add_ne e (by decide)), fun e => h4 (add_ne e (by decide)), fun e => h5 (add_ne e (by decide)), fun e => h6 (add_ne e (by decide)), fun e => h7 (add_ne e (by decide)), fun e => h8 (add_ne e (by decide)), fun e => h9 (add_ne e (by decide)), fun e => h10 (add_ne e (by decide)), fun e => h11 (add_ne e (by decide)), fun e => h12 (add_ne e (by decide)), fun e => h13 (add_ne e (by decide)), fun e => h14 (add_ne e (by decide)), fun e => h15 (add_ne e (by decide)), fun e => h16 (add_ne e (by decide))⟩
  · intro L az wz hI hL
    obtain ⟨v7, v8, v9, v10, v11, v12, v13, v14, v15, v16, v17, v18, v19, v20, v21, v22, v23, rfl, hV, hKp, h0, h1, h2, h3, h4, h5, h6, h7, h8, h9, h10, h11, h12, h13, h14, h15, h16⟩ := hI
    obtain ⟨V2, hv, h17, hn⟩ := hV
    go_end0
    exact ⟨rfl, by rw [← h17 (hL 17 (by decide))]; exact hv, hKp⟩
end Go.Proofs.Ytllhpdohahoelaa
