/- The contract of worth's New. -/
import Derived.Test.YtllhpdohahoelaaWH
namespace Go.Proofs.Ytllhpdohahoelaa
open Go.RowKit
set_option linter.unusedVariables false

theorem Try.info93r : (Try.prog.info? 93).map (fun i => (i.zero, i.size, i.bytes)) = some (some (.agg (s12 (fun _ => 0) (0, 0) (0, 0))), 12, 96) := by kernel_rfl
/-- standings that are 0 -/
def zst (n : Nat) : Array Value := madeCells (s12 (fun _ => 0) (0, 0) (0, 0)) (n * 12)
theorem zst_get (n : Nat) : ∀ m, m < n → ∀ j, j < 12 → (zst n)[m * 12 + j]? = (s12V (fun _ => 0, (0, 0), (0, 0)))[j]? := fun m hm j hj => by
  unfold zst madeCells s12V s12
  have h : m * 12 + j < n * 12 := by omega
  have h8 : (m * 12 + j) % 12 = j := by omega
  simp [h, h8]
  rcases lt12 hj with rfl | rfl | rfl | rfl | rfl | rfl | rfl | rfl | rfl | rfl | rfl | rfl <;> rfl
theorem make_standings (n : Nat) (hn : n ≤ 1000) (w : World) :
    (Instr.makeSlice 75 (.int .i64 (n : Int)) (.int .i64 (n : Int))).run Try.prog w = .ok (.slice (some ⟨w.heap.size, 0, none⟩) n n) (w.alloc (.cells (zst n) 93)) := by
  obtain ⟨i0, hi, hz0, hz1, hz2⟩ := info_parts Try.info93r
  have hb : (i0.bytes : Int) * (n : Int) ≤ 281474976710656 := by rw [hz2]; omega
  have hr := run_make (P := Try.prog) w 75 93 i0 _ Try.underlying75 hi hz0 .i64 .i64 n n (by omega) (by omega) hb (by omega)
  simp only [Int.toNat_natCast, hz1] at hr
  exact hr

/-- a table checked, a ledger of so many members: what New lays -/
structure NWS (w : World) (cs : List Cur) (nm lb : Nat) (L1 L4 L6 : Bool) (g c gM b : Nat) (wz : World) : Prop where
  blw : Below w.heap.size w wz
  t : L1 = true → Tab wz (some ⟨g, 0, none⟩) cs.length cs ∧ w.heap.size ≤ g ∧ g < wz.heap.size
  m : L4 = true → wz.heap[gM]? = some (.cells (zst nm) 93 (0, 0)) ∧ w.heap.size ≤ gM
  a : L1 = true → L4 = true → g ≠ gM
  b : L6 = true → wz.heap[b]? = some (.cells #[.slice (some ⟨g, 0, none⟩) cs.length c, .pointer (some ⟨lb, 0, none⟩), .slice (some ⟨gM, 0, none⟩) nm nm] 77 (0, 0)) ∧ w.heap.size ≤ b
section
variable {w wz w' : World} {cs : List Cur} {nm lb g c gM b : Nat} {L1 L4 L6 L1' L4' L6' : Bool}
theorem NWS.mono (h : NWS w cs nm lb L1 L4 L6 g c gM b wz) (h1 : L1' = true → L1 = true) (h4 : L4' = true → L4 = true) (h6 : L6' = true → L6 = true) : NWS w cs nm lb L1' L4' L6' g c gM b wz :=
  ⟨h.blw, fun e => h.t (h1 e), fun e => h.m (h4 e), fun e f => h.a (h1 e) (h4 f), fun e => h.b (h6 e)⟩
theorem NWS.on (h : NWS w cs nm lb L1 L4 L6 g c gM b wz) (hb : Below wz.heap.size wz w') : NWS w cs nm lb L1 L4 L6 g c gM b w' :=
  ⟨h.blw.trans (hb.mono h.blw.size), fun e => ⟨(h.t e).1.kept hb, (h.t e).2.1, Nat.lt_of_lt_of_le (h.t e).2.2 hb.size⟩, fun e => ⟨(hb.block _ (obj_lt (h.m e).1)).trans (h.m e).1, (h.m e).2⟩, h.a,
    fun e => ⟨(hb.block _ (obj_lt (h.b e).1)).trans (h.b e).1, (h.b e).2⟩⟩
end
theorem PLv.only {P : Nat → Prop} {w : World} {b gB cB : Nat} {l : LM} (h : PLv P w b l gB cB) : PLv (fun j => j = b ∨ j = gB) w b l gB cB := ⟨h.obj, h.bal, h.nm, h.nc, .inl rfl, .inr rfl⟩
/-- worths by a ledger -/
def WM.new (cs : List Cur) (l : LM) : WM := ⟨cs, l.nm, fun m => l.row m⟩
/-- New's way: k members are taken -/
structure NWL (w : World) (b lb : Nat) (x : WM) (k : Nat) (V : Nat → SV) (gT cT gM cM : Nat) (wr : World) : Prop where
  ws : WPv (fun j => w.heap.size ≤ j) wr b lb x V gT cT gM cM
  got : ∀ m, m < k → V m = stV x.cs (x.S m)
  blw : Below w.heap.size w wr
theorem NWS.done {w wz : World} {cs : List Cur} {nm lb g c gM b : Nat} {l : LM} (h : NWS w cs nm lb true true true g c gM b wz) (hg : l.Good) (hn : nm = l.nm) (hc : chkT cs = 0) : NWL w b lb (WM.new cs l) 0 (fun _ => (fun _ => 0, (0, 0), (0, 0))) g c gM nm wz := by
  subst hn
  exact ⟨⟨(h.b rfl).1, (h.t rfl).1, (h.t rfl).2.2, ⟨_, (h.m rfl).1, zst_get _⟩, hg.ok.nm.2, hc, ⟨(h.b rfl).2, (h.t rfl).2.1, (h.m rfl).2⟩, fun m c => get_in hg _ _, h.a rfl rfl⟩, fun m hm => by omega, h.blw⟩
theorem NWL.step {w wr w' : World} {b lb k gT cT gM cM : Nat} {x : WM} {V : Nat → SV} (h : NWL w b lb x k V gT cT gM cM wr) (hM : MR w' gM (updV V k (stV x.cs (x.S k))) x.nm) (hK : Kp (fun j => j = gM) wr w') : NWL w b lb x (k + 1) (updV V k (stV x.cs (x.S k))) gT cT gM cM w' := by
  refine ⟨h.ws.tot hK hM rfl rfl h.ws.in64, fun m hm => ?_, h.blw.trans ((hK.below (B := w.heap.size) h.blw.size fun j hj e => ?_))⟩
  · by_cases e : m = k
    · subst e; rw [updV_same]
    · rw [updV_other _ _ e]; exact h.got m (by omega)
  · have := h.ws.own.2.2; omega

/-- what New tells -/
def NewW (lb : Nat) (cs : List Cur) (l : LM) (w : World) (e : Ending) (w' : World) : Prop :=
  (chkT cs ≠ 0 → e = .returned (.tuple #[.pointer none, .int .i64 (chkT cs)])) ∧ (chkT cs = 0 → cs.length ≠ l.nc → e = .returned (.tuple #[.pointer none, .int .i64 1])) ∧
  (chkT cs = 0 → cs.length = l.nc → ∃ b, e = .returned (.tuple #[.pointer (some ⟨b, 0, none⟩), .int .i64 0]) ∧ WP (fun j => w.heap.size ≤ j) w' b lb (WM.new cs l)) ∧ Below w.heap.size w w'

set_option maxHeartbeats 4000000 in
set_option maxRecDepth 100000 in
theorem wnew_any {PF : Nat → Prop} {p : Option Addr} {len cap lb : Nat} {cs : List Cur} {l : LM} (w : World) (hT : Tab w p len cs) (hL : PL PF w lb l) (hg : l.Good) :
    Calls Try.prog 10 #[.slice p len cap, .pointer (some ⟨lb, 0, none⟩)] w (NewW lb cs l w) := by
  obtain ⟨gB, cB, hL⟩ := hL
  have hlen : cs.length = len := hT.1
  have hlb := obj_lt hL.obj
  have hlg := hL.bal.lt
  have hC := check_any p len cap cs w hT
  by_cases hc : chkT cs = 0
  · rw [hc] at hC
    by_cases hn : len = l.nc
    · subst hn
      have h1 := (chk_ok hc).1
      have h8 := (chk_ok hc).2.1
      rw [hlen] at h1 h8
      obtain ⟨hq1, hz, hq2, hcells⟩ := id hT
      clear hq1 hq2
      obtain ⟨pb, poff, rfl, hpb, hpc⟩ := hcells.resolve_left (by omega)
      have hn16 := hg.ok.nm.2
      have hmk := fun w => make_standings l.nm (by omega) w
      replace hcells := Lib.hid hcells
      replace hpc := Lib.hid hpc
      replace hz := Lib.hid hz
      replace hC := Lib.hid hC
      replace hT := Lib.hid hT
      replace hL := Lib.hid hL
      replace hg := Lib.hid hg
      replace hc := Lib.hid hc
      replace hlen := Lib.hid hlen
      go_enter Try.func10, Try.ntmps10
      go_upto_region 6 with (first | (go_at_call 30; (with_reducible refine hC.out.mono ?_); rintro e w1 ⟨rfl, hb1⟩))
      have hL1 := hL.out.below hb1
      have hT1 := hT.out.kept hb1
      have hS := psize_any w1 hL1
      replace hS := Lib.hid hS
      replace hT1 := Lib.hid hT1
      replace hL1 := Lib.hid hL1
      go_upto_region 9 with (first | (go_at_call 31; (with_reducible refine hS.out.mono ?_); rintro e w2 ⟨rfl, nd, rfl⟩))
      have hB2 : Below w.heap.size w (w1.drewN nd) := below_drewN hb1 nd
      have hL2 : PLv PF (w1.drewN nd) lb l gB cB := hL1.out.kept fun _ _ _ => rfl
      have hT2 : Tab (w1.drewN nd) (some ⟨pb, poff, none⟩) l.nc cs := hT1.out.kept (below_drewN (Below.refl _ _) nd)
      generalize w1.drewN nd = v at *
      clear hmk
      replace hB2 := Lib.hid hB2
      replace hL2 := Lib.hid hL2
      replace hT2 := Lib.hid hT2
      go_cut [9] from 27 to 33 (fun v9 wc => ∃ g c gM b : Nat, v9 = .pointer (some ⟨b, 0, none⟩) ∧ Hid (NWS w cs l.nm lb true true true g c gM b wc))
      case first =>
        rename_i J1 K1 hJ1 hK1
        refine wp_region_closed (by kernel_rfl) (fun L az wz => ∃ v9 v27 v28 v29 v30 v31 v32 v33 : Value, az = ({ tmps := (Value.slice (some ⟨pb, poff, none⟩) l.nc cap :: .pointer (some ⟨lb, 0, none⟩) :: undef :: undef :: .pointer none :: .int .i64 0 :: .int .i64 0 :: .int .i64 (l.nm : Int) :: .int .i64 (l.nc : Int) :: v9 :: undef :: Value.slice (some ⟨pb, poff, none⟩) l.nc cap :: .int .i64 0 :: .int .i64 0 :: .bool false :: undef :: .pointer (some ⟨lb, 0, none⟩) :: .bool false :: .tuple #[.int .i64 (l.nm : Int), .int .i64 (l.nc : Int)] :: .pointer (some ⟨lb, 0, none⟩) :: .tuple #[.int .i64 (l.nm : Int), .int .i64 (l.nc : Int)] :: .int .i64 (l.nm : Int) :: .int .i64 (l.nc : Int) :: .int .i64 (l.nc : Int) :: Value.slice (some ⟨pb, poff, none⟩) l.nc cap :: .int .i64 (l.nc : Int) :: .bool false :: v27 :: v28 :: v29 :: v30 :: v31 :: v32 :: v33 :: undef :: undef :: undef :: undef :: undef :: undef :: undef :: undef :: undef :: []).toArray, defers := [] } : Act) ∧ (∃ g c gM b : Nat, NWS w cs l.nm lb (L 1) (L 4) (L 6) g c gM b wz ∧ (L 1 = true → v28 = .slice (some ⟨g, 0, none⟩) cs.length c) ∧ (L 4 = true → v31 = .slice (some ⟨gM, 0, none⟩) l.nm l.nm) ∧ (L 5 = true → v32 = .agg #[.slice (some ⟨g, 0, none⟩) cs.length c, .pointer (some ⟨lb, 0, none⟩), .slice (some ⟨gM, 0, none⟩) l.nm l.nm]) ∧ (L 6 = true → v33 = .pointer (some ⟨b, 0, none⟩)) ∧ (L 7 = true → v9 = .pointer (some ⟨b, 0, none⟩))) ∧ (Below v.heap.size v wz) ∧ (L 0 = true → v27 = Value.slice (some ⟨pb, poff, none⟩) l.nc cap) ∧ (L 2 = true → v29 = .pointer (some ⟨lb, 0, none⟩)) ∧ (L 3 = true → v30 = .int .i64 (l.nm : Int))) (by kernel_rfl) ?_ ?_ ?_
        · exact ⟨_, _, _, _, _, _, _, _, rfl, ⟨0, 0, 0, 0, ⟨hB2.out.drew, nofun, nofun, nofun, nofun⟩, nofun, nofun, nofun, nofun, nofun⟩, (Below.refl _ _).drew, nofun, nofun, nofun⟩
        · intro L az wz iz hiz hni hI hdep hcl
          obtain ⟨v9, v27, v28, v29, v30, v31, v32, v33, rfl, hN, hV, h0, h2, h3⟩ := hI
          have hcase : iz = 0 ∨ iz = 1 ∨ iz = 2 ∨ iz = 3 ∨ iz = 4 ∨ iz = 5 ∨ iz = 6 ∨ iz = 7 := by
            have hi2 : iz < 8 := hiz
            omega
          rcases hcase with rfl | rfl | rfl | rfl | rfl | rfl | rfl | rfl
          · -- 0
            obtain ⟨g, c, gM, b, hN, k1, k4, k5, k6, k7⟩ := hN
            refine wpOp_step rfl fun Kz hKz => ?_
            go_simp
            exact hKz _ _ ⟨_, _, _, _, _, _, _, _, rfl, ⟨g, c, gM, b, hN.mono (fun e => add_ne e (by decide)) (fun e => add_ne e (by decide)) (fun e => add_ne e (by decide)), fun e => k1 (add_ne e (by decide)), fun e => k4 (add_ne e (by decide)), fun e => k5 (add_ne e (by decide)), fun e => k6 (add_ne e (by decide)), fun e => k7 (add_ne e (by decide))⟩, hV, fun _ => rfl, fun e => h2 (add_ne e (by decide)), fun e => h3 (add_ne e (by decide))⟩
          · -- 1
            obtain ⟨g, c, gM, b, hN, k1, k4, k5, k6, k7⟩ := hN
            have e0 := h0 (hdep 0 (by decide +kernel))
            subst e0
            have hcc := (clone_any pb poff l.nc cap cs wz (hT2.out.kept (show Below v.heap.size v wz from hV)) h1 (by omega)).mono fun e w' hc => Cloned.tab (hlen.out ▸ hc) hz.out (by have := hlen.out; omega)
            replace hcc := Lib.hid hcc
            refine wpOp_step rfl fun Kz hKz => ?_
            go_simp
            go_at_call 32
            refine (hcc.out).mono ?_
            rintro e w1 ⟨g', c', rfl, hT', hg', hg2', hb1⟩
            have hN2 : NWS w cs l.nm lb true (L 4) (L 6) g' c' gM b w1 := ⟨(hN.on hb1).blw, fun _ => ⟨hT', Nat.le_trans hN.blw.size hg', hg2'⟩, (hN.on hb1).m, fun _ e => by have := obj_lt (hN.m e).1; omega, fun e => absurd (hcl 5 (hcl 6 e 5 (by decide +kernel)) 1 (by decide +kernel)) (by rw [hni]; decide)⟩
            replace hN2 := Lib.hid hN2
            replace hT' := Lib.hid hT'
            go_simp
            exact hKz _ _ ⟨_, _, _, _, _, _, _, _, rfl, ⟨g', c', gM, b, hN2.out.mono (fun _ => rfl) (fun e => add_ne e (by decide)) (fun e => add_ne e (by decide)), fun _ => rfl, fun e => k4 (add_ne e (by decide)), fun e => absurd (hcl 5 (add_ne e (by decide)) 1 (by decide +kernel)) (by rw [hni]; decide), fun e => k6 (add_ne e (by decide)), fun e => k7 (add_ne e (by decide))⟩, hV.trans (hb1.mono hV.size), fun e => h0 (add_ne e (by decide)), fun e => h2 (add_ne e (by decide)), fun e => h3 (add_ne e (by decide))⟩
          · -- 2
            obtain ⟨g, c, gM, b, hN, k1, k4, k5, k6, k7⟩ := hN
            refine wpOp_step rfl fun Kz hKz => ?_
            go_simp
            exact hKz _ _ ⟨_, _, _, _, _, _, _, _, rfl, ⟨g, c, gM, b, hN.mono (fun e => add_ne e (by decide)) (fun e => add_ne e (by decide)) (fun e => add_ne e (by decide)), fun e => k1 (add_ne e (by decide)), fun e => k4 (add_ne e (by decide)), fun e => k5 (add_ne e (by decide)), fun e => k6 (add_ne e (by decide)), fun e => k7 (add_ne e (by decide))⟩, hV, fun e => h0 (add_ne e (by decide)), fun _ => rfl, fun e => h3 (add_ne e (by decide))⟩
          · -- 3
            obtain ⟨g, c, gM, b, hN, k1, k4, k5, k6, k7⟩ := hN
            refine wpOp_step rfl fun Kz hKz => ?_
            go_simp
            exact hKz _ _ ⟨_, _, _, _, _, _, _, _, rfl, ⟨g, c, gM, b, hN.mono (fun e => add_ne e (by decide)) (fun e => add_ne e (by decide)) (fun e => add_ne e (by decide)), fun e => k1 (add_ne e (by decide)), fun e => k4 (add_ne e (by decide)), fun e => k5 (add_ne e (by decide)), fun e => k6 (add_ne e (by decide)), fun e => k7 (add_ne e (by decide))⟩, hV, fun e => h0 (add_ne e (by decide)), fun e => h2 (add_ne e (by decide)), fun _ => rfl⟩
          · -- 4
            obtain ⟨g, c, gM, b, hN, k1, k4, k5, k6, k7⟩ := hN
            have e3 := h3 (hdep 3 (by decide +kernel))
            subst e3
            have hmk := make_standings l.nm (by omega) wz
            have hbb : Below wz.heap.size wz (wz.alloc (.cells (zst l.nm) 93)) := (Below.refl _ _).alloc (Nat.le_refl _) _
            have hN2 : NWS w cs l.nm lb (L 1) true (L 6) g c wz.heap.size b (wz.alloc (.cells (zst l.nm) 93)) := ⟨(hN.on hbb).blw, (hN.on hbb).t, fun _ => ⟨heap_alloc_new _ _, hN.blw.size⟩, fun e _ => by have := (hN.t e).2.2; omega, fun e => absurd (hcl 5 (hcl 6 e 5 (by decide +kernel)) 4 (by decide +kernel)) (by rw [hni]; decide)⟩
            replace hN2 := Lib.hid hN2
            replace hbb := Lib.hid hbb
            refine wpOp_step rfl fun Kz hKz => ?_
            go_simp
            exact hKz _ _ ⟨_, _, _, _, _, _, _, _, rfl, ⟨g, c, wz.heap.size, b, hN2.out.mono (fun e => add_ne e (by decide)) (fun _ => rfl) (fun e => add_ne e (by decide)), fun e => k1 (add_ne e (by decide)), fun _ => rfl, fun e => absurd (hcl 5 (add_ne e (by decide)) 4 (by decide +kernel)) (by rw [hni]; decide), fun e => k6 (add_ne e (by decide)), fun e => k7 (add_ne e (by decide))⟩, hV.trans (hbb.out.mono hV.size), fun e => h0 (add_ne e (by decide)), fun e => h2 (add_ne e (by decide)), fun e => h3 (add_ne e (by decide))⟩
          · -- 5
            obtain ⟨g, c, gM, b, hN, k1, k4, k5, k6, k7⟩ := hN
            have e1 := k1 (hdep 1 (by decide +kernel))
            have e4 := k4 (hdep 4 (by decide +kernel))
            subst e1
            subst e4
            have e2 := h2 (hdep 2 (by decide +kernel))
            subst e2
            refine wpOp_step rfl fun Kz hKz => ?_
            go_simp
            exact hKz _ _ ⟨_, _, _, _, _, _, _, _, rfl, ⟨g, c, gM, b, hN.mono (fun e => add_ne e (by decide)) (fun e => add_ne e (by decide)) (fun e => add_ne e (by decide)), fun _ => rfl, fun _ => rfl, fun _ => rfl, fun e => k6 (add_ne e (by decide)), fun e => k7 (add_ne e (by decide))⟩, hV, fun e => h0 (add_ne e (by decide)), fun e => h2 (add_ne e (by decide)), fun e => h3 (add_ne e (by decide))⟩
          · -- 6
            obtain ⟨g, c, gM, b, hN, k1, k4, k5, k6, k7⟩ := hN
            have e5 := k5 (hdep 5 (by decide +kernel))
            subst e5
            have hbb : Below wz.heap.size wz (wz.alloc (.cells #[.slice (some ⟨g, 0, none⟩) cs.length c, .pointer (some ⟨lb, 0, none⟩), .slice (some ⟨gM, 0, none⟩) l.nm l.nm] 77)) := (Below.refl _ _).alloc (Nat.le_refl _) _
            have hN2 : NWS w cs l.nm lb (L 1) (L 4) true g c gM wz.heap.size (wz.alloc (.cells #[.slice (some ⟨g, 0, none⟩) cs.length c, .pointer (some ⟨lb, 0, none⟩), .slice (some ⟨gM, 0, none⟩) l.nm l.nm] 77)) := ⟨(hN.on hbb).blw, (hN.on hbb).t, (hN.on hbb).m, hN.a, fun _ => ⟨heap_alloc_new _ _, hN.blw.size⟩⟩
            replace hN2 := Lib.hid hN2
            replace hbb := Lib.hid hbb
            refine wpOp_step rfl fun Kz hKz => ?_
            go_simp
            exact hKz _ _ ⟨_, _, _, _, _, _, _, _, rfl, ⟨g, c, gM, wz.heap.size, hN2.out.mono (fun e => add_ne e (by decide)) (fun e => add_ne e (by decide)) (fun _ => rfl), fun e => k1 (add_ne e (by decide)), fun e => k4 (add_ne e (by decide)), fun _ => rfl, fun _ => rfl, fun e => absurd (hcl 7 (add_ne e (by decide)) 6 (by decide +kernel)) (by rw [hni]; decide)⟩, hV.trans (hbb.out.mono hV.size), fun e => h0 (add_ne e (by decide)), fun e => h2 (add_ne e (by decide)), fun e => h3 (add_ne e (by decide))⟩
          · -- 7
            obtain ⟨g, c, gM, b, hN, k1, k4, k5, k6, k7⟩ := hN
            have e6 := k6 (hdep 6 (by decide +kernel))
            subst e6
            refine wpOp_step rfl fun Kz hKz => ?_
            go_simp
            exact hKz _ _ ⟨_, _, _, _, _, _, _, _, rfl, ⟨g, c, gM, b, hN.mono (fun e => add_ne e (by decide)) (fun e => add_ne e (by decide)) (fun e => add_ne e (by decide)), fun e => k1 (add_ne e (by decide)), fun e => k4 (add_ne e (by decide)), fun e => k5 (add_ne e (by decide)), fun _ => rfl, fun _ => rfl⟩, hV, fun e => h0 (add_ne e (by decide)), fun e => h2 (add_ne e (by decide)), fun e => h3 (add_ne e (by decide))⟩
        · intro L az wz hI hL
          obtain ⟨v9, v27, v28, v29, v30, v31, v32, v33, rfl, hN, hV, h0, h2, h3⟩ := hI
          obtain ⟨g, c, gM, b, hN, k1, k4, k5, k6, k7⟩ := hN
          refine hK1 _ _ (Met.intro (hJ1 _ _ ?_))
          (repeat apply Exists.intro)
          refine ⟨?rel, rfl⟩
          case rel => exact ⟨g, c, gM, b, k7 (hL 7 (by decide)), by have := hN; rw [hL 1 (by decide), hL 4 (by decide), hL 6 (by decide)] at this; exact this⟩
      case rest =>
        obtain ⟨g, c, gM, b, rfl, hN⟩ := hcut
        have hS0 := Lib.hid (hN.out.done hg.out rfl hc.out)
        go_upto_region 11 with (fail)
        go_loopw [35] (fun i wr => ∃ (k : Nat) (V : Nat → SV), k ≤ l.nm ∧ i = .int .i64 (k : Int) ∧ Hid (NWL w b lb (WM.new cs l) k V g c gM l.nm wr)) (fun i _ => l.nm - (intOf i).toNat)
        case atStart => exact ⟨0, _, by omega, rfl, hS0⟩
        case round =>
          obtain ⟨k, V, hk, rfl, hS⟩ := hrel
          by_cases hkl : k < l.nm
          · have hkz : (k : Int) < (l.nm : Int) := by omega
            have hM := moved_v (PF := fun j => j = lb ∨ j = gB) k wr (hL.out.only.below hS.out.blw) hS.out.ws (fun j hj hw => by rcases hj with rfl | rfl <;> omega) hkl (fun c => get_in hg.out _ _)
            replace hM := Lib.hid hM
            go_wp2_with (first | (go_at_call 33; (with_reducible refine hM.out.mono ?_); rintro e w3 ⟨rfl, hM3, hK3⟩; have hS3 := Lib.hid (hS.out.step hM3 hK3); replace hM3 := Lib.hid hM3; replace hK3 := Lib.hid hK3))
            go_roundw
            case rel => exact ⟨k + 1, _, by omega, by go_num, hS3⟩
            case measure => simp [intOf]; omega
          · obtain rfl : k = l.nm := by omega
            have hkz : ¬ (l.nm : Int) < (l.nm : Int) := by omega
            go_wp2_with fail
            go_ret2
            exact ⟨fun e => absurd hc.out e, fun _ e => absurd hlen.out e, fun _ _ => ⟨b, rfl, g, c, gM, l.nm, hS.out.ws.tot (y := WM.new cs l) (Kp.refl _ _) (hS.out.ws.rows.congr fun m hm => hS.out.got m hm) rfl rfl hS.out.ws.in64⟩, hS.out.blw⟩
    · have h1 := (chk_ok hc).1
      have hnz : ¬ (l.nc : Int) = (len : Int) := by omega
      have hnz2 : ((l.nc : Int) != (len : Int)) = true := by simpa using hnz
      have hne : cs.length ≠ l.nc := by omega
      replace hC := Lib.hid hC
      replace hT := Lib.hid hT
      replace hL := Lib.hid hL
      replace hg := Lib.hid hg
      replace hc := Lib.hid hc
      go_enter Try.func10, Try.ntmps10
      go_upto_region 6 with (first | (go_at_call 30; (with_reducible refine hC.out.mono ?_); rintro e w1 ⟨rfl, hb1⟩))
      have hS := psize_any w1 (hL.out.below hb1)
      replace hS := Lib.hid hS
      replace hb1 := Lib.hid hb1
      go_wp2_with (first | (go_at_call 31; (with_reducible refine hS.out.mono ?_); rintro e w2 ⟨rfl, nd, rfl⟩))
      go_ret2
      exact ⟨fun e => absurd hc.out e, fun _ _ => rfl, fun _ e => absurd e hne, below_drewN hb1.out nd⟩
  · obtain ⟨n, hn⟩ : ∃ n, chkT cs = n := ⟨_, rfl⟩
    unfold NewW
    rw [hn] at hC hc ⊢
    have hcz : (n != 0) = true := by simpa using hc
    replace hC := Lib.hid hC
    replace hT := Lib.hid hT
    replace hL := Lib.hid hL
    replace hg := Lib.hid hg
    replace hc := Lib.hid hc
    go_enter Try.func10, Try.ntmps10
    go_wp2_with (first | (go_at_call 30; (with_reducible refine hC.out.mono ?_); rintro e w1 ⟨rfl, hb1⟩; replace hb1 := Lib.hid hb1))
    go_ret2
    exact ⟨fun _ => rfl, fun e => absurd e hc.out, fun e => absurd e hc.out, hb1.out⟩
end Go.Proofs.Ytllhpdohahoelaa
