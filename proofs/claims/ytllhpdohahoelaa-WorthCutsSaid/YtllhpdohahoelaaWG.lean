/- The contracts of worth's Moved and reckon, over Worths. -/
import Derived.Test.YtllhpdohahoelaaWF
namespace Go.Proofs.Ytllhpdohahoelaa
open Go.RowKit
set_option linter.unusedVariables false

theorem WPv.tot {P : Nat → Prop} {w w' : World} {b lb gT cT gM cM : Nat} {x y : WM} {V V' : Nat → SV} (h : WPv P w b lb x V gT cT gM cM) (hK : Kp (fun j => j = gM) w w') (hM : MR w' gM V' x.nm) (e1 : y.cs = x.cs) (e2 : y.nm = x.nm) (hin : ∀ m c, In64 (y.S m c)) : WPv P w' b lb y V' gT cT gM cM := by
  have hbM : b ≠ gM := by obtain ⟨ds, hy, _⟩ := h.rows; exact obj_ne h.obj hy (by decide)
  refine ⟨?_, ?_, Nat.lt_of_lt_of_le h.tlt hK.size, by rw [e2]; exact hM, by rw [e2]; exact h.nm, by rw [e1]; exact h.chk, h.own, hin, h.apart⟩
  · have e : wArr y lb gT cT gM cM = wArr x lb gT cT gM cM := by unfold wArr; rw [e1, e2]
    rw [e]; exact (hK.block _ (obj_lt h.obj) hbM).trans h.obj
  · rw [e1]; exact h.tab.at h.tlt hK.size (hK.block _ h.tlt h.apart)
def WM.moved (x : WM) (l : LM) (m : Int) : WM := if x.has m then ⟨x.cs, x.nm, fun a => if a = m.toNat then l.row m.toNat else x.S a⟩ else x
theorem get_in {l : LM} (h : l.Good) (m c : Int) : In64 (l.get m c) := by
  unfold LM.get
  split
  · exact h.ok.b _ _
  · decide
set_option maxHeartbeats 1000000 in
theorem moved_any {PF P : Nat → Prop} {b lb : Nat} {x : WM} {l : LM} (m : Int) (w : World) (hL : PL PF w lb l) (hg : l.Good) (hW : WP P w b lb x) (hd : ∀ j, PF j → ¬ P j) :
    Calls Try.prog 33 #[.pointer (some ⟨b, 0, none⟩), .int .i64 m] w fun e w' => e = .returned (.tuple #[]) ∧ WP P w' b lb (x.moved l m) ∧ Kp P w w' := by
  obtain ⟨gT, cT, gM, cM, h⟩ := hW
  unfold WM.moved
  cases hh : x.has m with
  | false =>
    have hH := whas_any m w h
    rw [hh] at hH
    rw [if_neg (by simp)]
    replace hH := Lib.hid hH
    replace h := Lib.hid h
    go_enter Try.func33, Try.ntmps33
    go_wp2_with (first | (go_at_call 39; (with_reducible refine hH.out.mono ?_); rintro e w1 ⟨rfl, rfl⟩))
    go_end0
    exact ⟨rfl, ⟨gT, cT, gM, cM, h.out⟩, Kp.refl _ _⟩
  | true =>
    rw [if_pos rfl]
    obtain ⟨i, rfl, hi⟩ := WM.has_nat hh
    obtain ⟨gB, cB, hLv⟩ := hL
    refine (moved_v i w hLv h hd hi (fun c => get_in hg _ _)).mono ?_
    rintro e w' ⟨rfl, hM, hK⟩
    have ei : ((i : Int)).toNat = i := by omega
    refine ⟨rfl, ⟨gT, cT, gM, cM, h.tot (y := ⟨x.cs, x.nm, _⟩) hK (hM.congr fun a ha => ?_) rfl rfl fun a c => ?_⟩, hK.mono fun j hj e => e ▸ h.own.2.2⟩
    · dsimp only
      rw [ei]
      by_cases e : a = i
      · subst e; rw [updV_same, if_pos rfl]
      · rw [updV_other _ _ e, if_neg e]
    · dsimp only
      split
      · exact get_in hg _ _
      · exact h.in64 _ _

/-- reckon's way -/
structure RK (P : Nat → Prop) (u : World) (b lb : Nat) (x : WM) (k : Nat) (V : Nat → SV) (gT cT gM cM : Nat) (wr : World) : Prop where
  ws : WPv P wr b lb x V gT cT gM cM
  old : ∀ m, (V m).1 = x.S m
  got : ∀ m, m < k → V m = stV x.cs (x.S m)
  kp : Kp P u wr

theorem RK.step {P : Nat → Prop} {w v wc : World} {b lb : Nat} {x : WM} {k : Nat} {V : Nat → SV} {g c gM cM : Nat} (h1 : WPv P v b lb x V g c gM cM) (ho : ∀ m, (V m).1 = x.S m) (hg : ∀ m, m < k → V m = stV x.cs (x.S m)) (hK : Kp P w v)
    (hM : MR wc gM (updV V k (stV x.cs (x.S k))) x.nm) (hKp : Kp (fun j => j = gM) v wc) : RK P w b lb x (k + 1) (updV V k (stV x.cs (x.S k))) g c gM cM wc := by
  refine ⟨h1.tot hKp hM rfl rfl h1.in64, fun m => ?_, fun m hm => ?_, hK.then hKp (fun j hj e => e ▸ h1.own.2.2)⟩
  · by_cases e : m = k
    · subst e; rw [updV_same]; rfl
    · rw [updV_other _ _ e]; exact ho m
  · by_cases e : m = k
    · subst e; rw [updV_same]
    · rw [updV_other _ _ e]; exact hg m (by omega)

set_option maxHeartbeats 4000000 in
set_option maxRecDepth 100000 in
theorem reckon_any {P : Nat → Prop} {b lb g c : Nat} {x : WM} {cs : List Cur} {gT cT gM cM : Nat} (w : World) (h : WPv P w b lb x (fun m => stV x.cs (x.S m)) gT cT gM cM) (hT : Tab w (some ⟨g, 0, none⟩) x.cs.length cs) (hc : chkT cs = 0) (hgl : g < w.heap.size) (hgP : P g) (hgM' : g ≠ gM) (hgb : g ≠ b) :
    Calls Try.prog 50 #[.pointer (some ⟨b, 0, none⟩), .slice (some ⟨g, 0, none⟩) x.cs.length c] w fun e w' => e = .returned (.tuple #[]) ∧ WP P w' b lb ⟨cs, x.nm, x.S⟩ ∧ Kp P w w' := by
  have hlen : cs.length = x.cs.length := hT.1
  have hn16 : x.nm ≤ 16 := h.nm
  have hbM : b ≠ gM := by obtain ⟨ds, hy, _⟩ := h.rows; exact obj_ne h.obj hy (by decide)
  have c0 := h.c0
  have hz := obj_free h.obj 0
  have hbl := obj_lt h.obj
  have h1 : WPv P (w.setCell ⟨b, 0, none⟩ (.slice (some ⟨g, 0, none⟩) x.cs.length c)) b lb ⟨cs, x.nm, x.S⟩ (fun m => stV x.cs (x.S m)) g c gM cM := by
    refine ⟨?_, ?_, by simpa using hgl, h.rows.at (obj_other _ hbM.symm), h.nm, hc, ⟨h.own.1, hgP, h.own.2.2⟩, h.in64, hgM'⟩
    · have := obj_set h.obj 0 (.slice (some ⟨g, 0, none⟩) x.cs.length c)
      rw [this]; unfold wArr; rw [hlen]; rfl
    · rw [hlen]; exact hT.at hgl (by simp) (obj_other _ hgb)
  have hK1 : Kp P w (w.setCell ⟨b, 0, none⟩ (.slice (some ⟨g, 0, none⟩) x.cs.length c)) := (Kp.refl _ _).setCell (.inl h.own.1) _
  generalize hu : w.setCell ⟨b, 0, none⟩ (.slice (some ⟨g, 0, none⟩) x.cs.length c) = u at *
  have c2 := h1.c2
  have hS0 : RK P w b lb ⟨cs, x.nm, x.S⟩ 0 (fun m => stV x.cs (x.S m)) g c gM cM u := ⟨h1, fun m => rfl, fun m hm => by omega, hK1⟩
  rw [← hlen] at hu ⊢
  replace hu := Lib.hid hu
  replace h := Lib.hid h
  replace h1 := Lib.hid h1
  replace hS0 := Lib.hid hS0
  replace hT := Lib.hid hT
  replace hc := Lib.hid hc
  replace hK1 := Lib.hid hK1
  replace hlen := Lib.hid hlen
  go_enter Try.func50, Try.ntmps50
  go_upto_region 1 with (fail)
  rw [hu.out]
  go_upto_region 2 with (fail)
  go_loopw [15] (fun i wr => ∃ (k : Nat) (V : Nat → SV), k ≤ x.nm ∧ i = .int .i64 (k : Int) ∧ Hid (RK P w b lb ⟨cs, x.nm, x.S⟩ k V g c gM cM wr)) (fun i _ => x.nm - (intOf i).toNat)
  case atStart => exact ⟨0, _, by omega, rfl, hS0⟩
  case round =>
    obtain ⟨k, V, hk, rfl, hS⟩ := hrel
    have hR := hS.out
    by_cases hkl : k < x.nm
    · have hkz : (k : Int) < (x.nm : Int) := by omega
      obtain ⟨y0, y1, y2, y3, y4, y5, y6, y7, y8, y9, y10, y11⟩ := hR.ws.rows.cells hkl
      have hBb : Below wr.heap.size wr (wr.alloc (.cells (s12V (V k)) 93)) := (Below.refl _ wr).alloc (Nat.le_refl _) _
      have hbx := heap_alloc_new wr (.cells (s12V (V k)) 93)
      have hRu := hR.ws.below hBb
      have hKu : Kp P w (wr.alloc (.cells (s12V (V k)) 93)) := hR.kp.alloc _
      generalize hv : wr.alloc (.cells (s12V (V k)) 93) = v at *
      unfold s12V s12 at hv
      replace hv := Lib.hid hv
      replace hR := Lib.hid hR
      replace hbx := Lib.hid hbx
      replace hRu := Lib.hid hRu
      replace hBb := Lib.hid hBb
      replace hKu := Lib.hid hKu
      go_upto_block 1 with fail
      go_cut [4, 5] from 16 to 29 (fun v4 v5 wc => Hid (RK P w b lb ⟨cs, x.nm, x.S⟩ (k + 1) (updV V k (stV cs (x.S k))) g c gM cM wc))
      case first =>
        go_upto_region 4 with (fail)
        change Code.wp _ _ _ _ (wr.alloc (.cells #[.int .i64 ((V k).1 0), .int .i64 ((V k).1 1), .int .i64 ((V k).1 2), .int .i64 ((V k).1 3), .int .i64 ((V k).1 4), .int .i64 ((V k).1 5), .int .i64 ((V k).1 6), .int .i64 ((V k).1 7), .int .i64 (V k).2.1.1, .int .i64 (V k).2.1.2, .int .i64 (V k).2.2.1, .int .i64 (V k).2.2.2] 93))
        rw [hv.out]
        have hold := Lib.hid (hR.out.old k)
        have c2v := hRu.out.c2
        have hwM : wr.heap.size ≠ gM := by have := hR.out.ws.rows.lt; omega
        clear y0 y1 y2 y3 y4 y5 y6 y7 y8 y9 y10 y11
        rename_i J1 K1 hJ1 hK1
        refine wp_region_closed (by kernel_rfl) (fun L az wz => ∃ v20 v21 v22 v23 v24 v25 v26 v27 v28 v29 : Value, az = ({ tmps := (.pointer (some ⟨b, 0, none⟩) :: Value.slice (some ⟨g, 0, none⟩) cs.length c :: undef :: undef :: .int .i64 (k : Int) :: .pointer (some ⟨wr.heap.size, 0, none⟩) :: .pointer (some ⟨b, 0, none⟩) :: Value.slice (some ⟨g, 0, none⟩) cs.length c :: .pointer (some ⟨b, 0, none⟩) :: .pointer (some ⟨b, 0, none⟩) :: .pointer (some ⟨b, 0, none⟩) :: .pointer (some ⟨b, 0, none⟩) :: .pointer (some ⟨b, 2, none⟩) :: Value.slice (some ⟨gM, 0, none⟩) x.nm cM :: .int .i64 (x.nm : Int) :: .int .i64 (k : Int) :: .bool true :: .int .i64 (k : Int) :: .pointer (some ⟨gM, k * 12, none⟩) :: Value.agg #[.int .i64 ((V k).1 0), .int .i64 ((V k).1 1), .int .i64 ((V k).1 2), .int .i64 ((V k).1 3), .int .i64 ((V k).1 4), .int .i64 ((V k).1 5), .int .i64 ((V k).1 6), .int .i64 ((V k).1 7), .int .i64 (V k).2.1.1, .int .i64 (V k).2.1.2, .int .i64 (V k).2.2.1, .int .i64 (V k).2.2.2] :: v20 :: v21 :: v22 :: v23 :: v24 :: v25 :: v26 :: v27 :: v28 :: v29 :: u30 :: []).toArray, defers := [] } : Act) ∧ (∃ V2 : Nat → SV, MR wz gM V2 x.nm ∧ (L 10 = true → V2 = updV V k (stV cs (x.S k))) ∧ (L 10 = false → V2 = V)) ∧ (Kp (fun j => j = gM) v wz) ∧ (L 0 = true → v20 = .pointer (some ⟨b, 0, none⟩)) ∧ (L 1 = true → v21 = .pointer (some ⟨b, 0, none⟩)) ∧ (L 2 = true → v22 = .pointer (some ⟨b, 2, none⟩)) ∧ (L 3 = true → v23 = Value.slice (some ⟨gM, 0, none⟩) x.nm cM) ∧ (L 4 = true → v24 = .int .i64 (k : Int)) ∧ (L 5 = true → v25 = .pointer (some ⟨wr.heap.size, 0, none⟩)) ∧ (L 6 = true → v26 = .agg (r8 (x.S k))) ∧ (L 7 = true → v27 = Value.slice (some ⟨g, 0, none⟩) cs.length c) ∧ (L 8 = true → v28 = .agg (s12V (stV cs (x.S k)))) ∧ (L 9 = true → v29 = .pointer (some ⟨gM, k * 12, none⟩))) (by kernel_rfl) ?_ ?_ ?_
        · exact ⟨_, _, _, _, _, _, _, _, _, _, rfl, ⟨V, hRu.out.rows.at rfl, nofun, fun _ => rfl⟩, (Kp.refl _ _).drew, nofun, nofun, nofun, nofun, nofun, nofun, nofun, nofun, nofun, nofun⟩
        · intro L az wz iz hiz hni hI hdep hcl
          obtain ⟨v20, v21, v22, v23, v24, v25, v26, v27, v28, v29, rfl, hV, hKp, h0, h1, h2, h3, h4, h5, h6, h7, h8, h9⟩ := hI
          have hcase : iz = 0 ∨ iz = 1 ∨ iz = 2 ∨ iz = 3 ∨ iz = 4 ∨ iz = 5 ∨ iz = 6 ∨ iz = 7 ∨ iz = 8 ∨ iz = 9 ∨ iz = 10 := by
            have hi2 : iz < 11 := hiz
            omega
          rcases hcase with rfl | rfl | rfl | rfl | rfl | rfl | rfl | rfl | rfl | rfl | rfl
          · -- 0
            obtain ⟨V2, hv2, h17, hn⟩ := hV
            refine wpOp_step rfl fun Kz hKz => ?_
            go_simp
            exact hKz _ _ ⟨_, _, _, _, _, _, _, _, _, _, rfl, ⟨V2, hv2, fun e => h17 (add_ne e (by decide)), fun e => hn (by cases h : L 10 with | false => rfl | true => rw [add_old h] at e; cases e)⟩, hKp, fun _ => rfl, fun e => h1 (add_ne e (by decide)), fun e => h2 (add_ne e (by decide)), fun e => h3 (add_ne e (by decide)), fun e => h4 (add_ne e (by decide)), fun e => h5 (add_ne e (by decide)), fun e => h6 (add_ne e (by decide)), fun e => h7 (add_ne e (by decide)), fun e => h8 (add_ne e (by decide)), fun e => h9 (add_ne e (by decide))⟩
          · -- 1
            obtain ⟨V2, hv2, h17, hn⟩ := hV
            have e0 := h0 (hdep 0 (by decide +kernel))
            subst e0
            refine wpOp_step rfl fun Kz hKz => ?_
            go_simp
            exact hKz _ _ ⟨_, _, _, _, _, _, _, _, _, _, rfl, ⟨V2, hv2, fun e => h17 (add_ne e (by decide)), fun e => hn (by cases h : L 10 with | false => rfl | true => rw [add_old h] at e; cases e)⟩, hKp, fun e => h0 (add_ne e (by decide)), fun _ => rfl, fun e => h2 (add_ne e (by decide)), fun e => h3 (add_ne e (by decide)), fun e => h4 (add_ne e (by decide)), fun e => h5 (add_ne e (by decide)), fun e => h6 (add_ne e (by decide)), fun e => h7 (add_ne e (by decide)), fun e => h8 (add_ne e (by decide)), fun e => h9 (add_ne e (by decide))⟩
          · -- 2
            obtain ⟨V2, hv2, h17, hn⟩ := hV
            have e1 := h1 (hdep 1 (by decide +kernel))
            subst e1
            refine wpOp_step rfl fun Kz hKz => ?_
            go_simp
            exact hKz _ _ ⟨_, _, _, _, _, _, _, _, _, _, rfl, ⟨V2, hv2, fun e => h17 (add_ne e (by decide)), fun e => hn (by cases h : L 10 with | false => rfl | true => rw [add_old h] at e; cases e)⟩, hKp, fun e => h0 (add_ne e (by decide)), fun e => h1 (add_ne e (by decide)), fun _ => rfl, fun e => h3 (add_ne e (by decide)), fun e => h4 (add_ne e (by decide)), fun e => h5 (add_ne e (by decide)), fun e => h6 (add_ne e (by decide)), fun e => h7 (add_ne e (by decide)), fun e => h8 (add_ne e (by decide)), fun e => h9 (add_ne e (by decide))⟩
          · -- 3
            obtain ⟨V2, hv2, h17, hn⟩ := hV
            have e2 := h2 (hdep 2 (by decide +kernel))
            subst e2
            have z := hKp.cell c2v (show ¬ b = gM from hbM)
            refine wpOp_step rfl fun Kz hKz => ?_
            go_simp
            exact hKz _ _ ⟨_, _, _, _, _, _, _, _, _, _, rfl, ⟨V2, hv2, fun e => h17 (add_ne e (by decide)), fun e => hn (by cases h : L 10 with | false => rfl | true => rw [add_old h] at e; cases e)⟩, hKp, fun e => h0 (add_ne e (by decide)), fun e => h1 (add_ne e (by decide)), fun e => h2 (add_ne e (by decide)), fun _ => rfl, fun e => h4 (add_ne e (by decide)), fun e => h5 (add_ne e (by decide)), fun e => h6 (add_ne e (by decide)), fun e => h7 (add_ne e (by decide)), fun e => h8 (add_ne e (by decide)), fun e => h9 (add_ne e (by decide))⟩
          · -- 4
            obtain ⟨V2, hv2, h17, hn⟩ := hV
            refine wpOp_step rfl fun Kz hKz => ?_
            go_simp
            exact hKz _ _ ⟨_, _, _, _, _, _, _, _, _, _, rfl, ⟨V2, hv2, fun e => h17 (add_ne e (by decide)), fun e => hn (by cases h : L 10 with | false => rfl | true => rw [add_old h] at e; cases e)⟩, hKp, fun e => h0 (add_ne e (by decide)), fun e => h1 (add_ne e (by decide)), fun e => h2 (add_ne e (by decide)), fun e => h3 (add_ne e (by decide)), fun _ => rfl, fun e => h5 (add_ne e (by decide)), fun e => h6 (add_ne e (by decide)), fun e => h7 (add_ne e (by decide)), fun e => h8 (add_ne e (by decide)), fun e => h9 (add_ne e (by decide))⟩
          · -- 5
            obtain ⟨V2, hv2, h17, hn⟩ := hV
            refine wpOp_step rfl fun Kz hKz => ?_
            go_simp
            exact hKz _ _ ⟨_, _, _, _, _, _, _, _, _, _, rfl, ⟨V2, hv2, fun e => h17 (add_ne e (by decide)), fun e => hn (by cases h : L 10 with | false => rfl | true => rw [add_old h] at e; cases e)⟩, hKp, fun e => h0 (add_ne e (by decide)), fun e => h1 (add_ne e (by decide)), fun e => h2 (add_ne e (by decide)), fun e => h3 (add_ne e (by decide)), fun e => h4 (add_ne e (by decide)), fun _ => rfl, fun e => h6 (add_ne e (by decide)), fun e => h7 (add_ne e (by decide)), fun e => h8 (add_ne e (by decide)), fun e => h9 (add_ne e (by decide))⟩
          · -- 6
            obtain ⟨V2, hv2, h17, hn⟩ := hV
            have e5 := h5 (hdep 5 (by decide +kernel))
            subst e5
            have hbz := (hKp.block _ (obj_lt hbx.out) hwM).trans hbx.out
            have z0 : wz.cell? ⟨wr.heap.size, 0, none⟩ = some (.int .i64 ((V k).1 0)) := obj_cell hbz rfl
            have z1 : wz.cell? ⟨wr.heap.size, 1, none⟩ = some (.int .i64 ((V k).1 1)) := obj_cell hbz rfl
            have z2 : wz.cell? ⟨wr.heap.size, 2, none⟩ = some (.int .i64 ((V k).1 2)) := obj_cell hbz rfl
            have z3 : wz.cell? ⟨wr.heap.size, 3, none⟩ = some (.int .i64 ((V k).1 3)) := obj_cell hbz rfl
            have z4 : wz.cell? ⟨wr.heap.size, 4, none⟩ = some (.int .i64 ((V k).1 4)) := obj_cell hbz rfl
            have z5 : wz.cell? ⟨wr.heap.size, 5, none⟩ = some (.int .i64 ((V k).1 5)) := obj_cell hbz rfl
            have z6 : wz.cell? ⟨wr.heap.size, 6, none⟩ = some (.int .i64 ((V k).1 6)) := obj_cell hbz rfl
            have z7 : wz.cell? ⟨wr.heap.size, 7, none⟩ = some (.int .i64 ((V k).1 7)) := obj_cell hbz rfl
            replace hbz := Lib.hid hbz
            refine wpOp_step rfl fun Kz hKz => ?_
            go_simp
            exact hKz _ _ ⟨_, _, _, _, _, _, _, _, _, _, rfl, ⟨V2, hv2, fun e => h17 (add_ne e (by decide)), fun e => hn (by cases h : L 10 with | false => rfl | true => rw [add_old h] at e; cases e)⟩, hKp, fun e => h0 (add_ne e (by decide)), fun e => h1 (add_ne e (by decide)), fun e => h2 (add_ne e (by decide)), fun e => h3 (add_ne e (by decide)), fun e => h4 (add_ne e (by decide)), fun e => h5 (add_ne e (by decide)), fun _ => by rw [← hold.out]; rfl, fun e => h7 (add_ne e (by decide)), fun e => h8 (add_ne e (by decide)), fun e => h9 (add_ne e (by decide))⟩
          · -- 7
            obtain ⟨V2, hv2, h17, hn⟩ := hV
            refine wpOp_step rfl fun Kz hKz => ?_
            go_simp
            exact hKz _ _ ⟨_, _, _, _, _, _, _, _, _, _, rfl, ⟨V2, hv2, fun e => h17 (add_ne e (by decide)), fun e => hn (by cases h : L 10 with | false => rfl | true => rw [add_old h] at e; cases e)⟩, hKp, fun e => h0 (add_ne e (by decide)), fun e => h1 (add_ne e (by decide)), fun e => h2 (add_ne e (by decide)), fun e => h3 (add_ne e (by decide)), fun e => h4 (add_ne e (by decide)), fun e => h5 (add_ne e (by decide)), fun e => h6 (add_ne e (by decide)), fun _ => rfl, fun e => h8 (add_ne e (by decide)), fun e => h9 (add_ne e (by decide))⟩
          · -- 8
            obtain ⟨V2, hv2, h17, hn⟩ := hV
            have e6 := h6 (hdep 6 (by decide +kernel))
            subst e6
            have e7 := h7 (hdep 7 (by decide +kernel))
            subst e7
            have hTz := hRu.out.tab.at hRu.out.tlt hKp.size (hKp.block _ hRu.out.tlt hgM')
            have hcc := by_any (x.S k) (some ⟨g, 0, none⟩) cs.length c cs wz hTz hRu.out.n8 hRu.out.oob (fun q => hRu.out.in64 k q)
            rw [show s12 (x.S k) (netF cs (x.S k) cs.length 0 0) (shortF cs (x.S k) cs.length 0 0) = s12V (stV cs (x.S k)) from rfl] at hcc
            replace hTz := Lib.hid hTz
            replace hcc := Lib.hid hcc
            refine wpOp_step rfl fun Kz hKz => ?_
            go_simp
            go_at_call 43
            refine (hcc.out).mono ?_
            rintro e w1 ⟨rfl, hb1⟩
            have hv3 := hv2.at (hb1.block _ hv2.lt)
            have hKp2 := hKp.then (Kp.of_below (F := fun j => j = gM) hb1) (fun j hj e => e)
            replace hv3 := Lib.hid hv3
            go_simp
            exact hKz _ _ ⟨_, _, _, _, _, _, _, _, _, _, rfl, ⟨V2, hv3.out, fun e => h17 (add_ne e (by decide)), fun e => hn (by cases h : L 10 with | false => rfl | true => rw [add_old h] at e; cases e)⟩, hKp2, fun e => h0 (add_ne e (by decide)), fun e => h1 (add_ne e (by decide)), fun e => h2 (add_ne e (by decide)), fun e => h3 (add_ne e (by decide)), fun e => h4 (add_ne e (by decide)), fun e => h5 (add_ne e (by decide)), fun e => h6 (add_ne e (by decide)), fun e => h7 (add_ne e (by decide)), fun _ => rfl, fun e => h9 (add_ne e (by decide))⟩
          · -- 9
            obtain ⟨V2, hv2, h17, hn⟩ := hV
            have e3 := h3 (hdep 3 (by decide +kernel))
            subst e3
            have e4 := h4 (hdep 4 (by decide +kernel))
            subst e4
            refine wpOp_step rfl fun Kz hKz => ?_
            go_simp
            exact hKz _ _ ⟨_, _, _, _, _, _, _, _, _, _, rfl, ⟨V2, hv2, fun e => h17 (add_ne e (by decide)), fun e => hn (by cases h : L 10 with | false => rfl | true => rw [add_old h] at e; cases e)⟩, hKp, fun e => h0 (add_ne e (by decide)), fun e => h1 (add_ne e (by decide)), fun e => h2 (add_ne e (by decide)), fun e => h3 (add_ne e (by decide)), fun e => h4 (add_ne e (by decide)), fun e => h5 (add_ne e (by decide)), fun e => h6 (add_ne e (by decide)), fun e => h7 (add_ne e (by decide)), fun e => h8 (add_ne e (by decide)), fun _ => rfl⟩
          · -- 10
            obtain ⟨V2, hv2, h17, hn⟩ := hV
            have e9 := h9 (hdep 9 (by decide +kernel))
            subst e9
            have e8 := h8 (hdep 8 (by decide +kernel))
            subst e8
            have eV := hn hni
            subst eV
            obtain ⟨y0, y1, y2, y3, y4, y5, y6, y7, y8, y9, y10, y11⟩ := hv2.cells hkl
            have hz2 := hv2.free
            have hv3 := hv2.set hkl (stV cs (x.S k))
            have hK3 := hKp.st12 (p := gM) (.inl rfl) (k * 12) (stV cs (x.S k))
            generalize hsv : stV cs (x.S k) = sv at *
            replace hsv := Lib.hid hsv
            replace hv2 := Lib.hid hv2
            replace hv3 := Lib.hid hv3
            replace hK3 := Lib.hid hK3
            unfold s12V s12
            refine wpOp_step rfl fun Kz hKz => ?_
            go_simp
            exact hKz _ _ ⟨_, _, _, _, _, _, _, _, _, _, rfl, ⟨_, hv3.out, fun _ => rfl, fun e => by rw [show add L 10 10 = true from add_iff.2 (.inr rfl)] at e; cases e⟩, hK3.out, fun e => h0 (add_ne e (by decide)), fun e => h1 (add_ne e (by decide)), fun e => h2 (add_ne e (by decide)), fun e => h3 (add_ne e (by decide)), fun e => h4 (add_ne e (by decide)), fun e => h5 (add_ne e (by decide)), fun e => h6 (add_ne e (by decide)), fun e => h7 (add_ne e (by decide)), fun e => h8 (add_ne e (by decide)), fun e => h9 (add_ne e (by decide))⟩
        · intro L az wz hI hL
          obtain ⟨v20, v21, v22, v23, v24, v25, v26, v27, v28, v29, rfl, hV, hKp, h0, h1, h2, h3, h4, h5, h6, h7, h8, h9⟩ := hI
          obtain ⟨V2, hv2, h17, hn⟩ := hV
          refine hK1 _ _ (Met.intro (hJ1 _ _ ?_))
          (repeat apply Exists.intro)
          refine ⟨?rel, rfl⟩
          case rel => exact RK.step (x := ⟨cs, x.nm, x.S⟩) hRu.out hR.out.old hR.out.got hKu.out (by rw [← h17 (hL 10 (by decide))]; exact hv2) hKp
      case rest =>
        go_wp2_with fail
        go_roundw
        case rel => exact ⟨k + 1, _, by omega, by go_num, hcut⟩
        case measure => simp [intOf]; omega
    · obtain rfl : k = x.nm := by omega
      have hkz : ¬ (x.nm : Int) < (x.nm : Int) := by omega
      replace hR := Lib.hid hR
      go_wp2_with fail
      go_end0
      refine ⟨rfl, ⟨g, c, gM, cM, hR.out.ws.tot (y := ⟨cs, x.nm, x.S⟩) (Kp.refl _ _) (hR.out.ws.rows.congr fun m hm => hR.out.got m hm) rfl rfl hR.out.ws.in64⟩, hR.out.kp⟩
end Go.Proofs.Ytllhpdohahoelaa
