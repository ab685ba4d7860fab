/- The contract of the reference's If. -/
import Derived.Test.YtllhpdohahoelaaNR0
import Derived.Test.YtllhpdohahoelaaNP
import Derived.Test.YtllhpdohahoelaaWA
import Derived.Test.YtllhpdohahoelaaLG8
import Derived.Deep.RegionHeld3
import Derived.Deep.RegionWith
import Derived.Deep.RegionLaw
namespace Go.Proofs.Ytllhpdohahoelaa
open Go.RowKit
set_option linter.unusedVariables false

theorem seqS {w : World} {S : Nat} {x : Int} (h : w.heap[S]? = some (.cells #[.int .i64 x] 2 (0, 0))) (hx : Amt x) : Seq64 w (some ⟨S, 0, none⟩) 1 [x] := by
  refine ⟨rfl, amt_getD _ (by simp; exact hx), by decide, .inr ⟨S, 0, rfl, obj_lt h, fun i hi => ?_⟩⟩
  obtain rfl : i = 0 := by omega
  exact obj_cell h rfl
/-- If's first way: all are of a currency so far -/
structure ISt (w : World) (nc g : Nat) (b : Nat → Int) (ps : List Pst) (k : Nat) (wr : World) : Prop where
  known : ∀ q ∈ ps.take k, 0 ≤ q.c ∧ q.c < nc
  row : IR wr g b nc
  blw : Below w.heap.size w wr
/-- its second way: k postings are done -/
structure JSt (w : World) (nc g : Nat) (b : Nat → Int) (m : Int) (ps : List Pst) (k : Nat) (d : Nat → Int) (wr : World) : Prop where
  row : IR wr g d nc
  go : goI m d (ps.drop k) = goI m b ps
  ic : ∀ c, In64 (d c)
  blw : Below w.heap.size w wr

set_option maxRecDepth 100000 in
set_option maxHeartbeats 8000000 in
theorem ifR_any (p : Option Addr) (len cap : Nat) (cs : List Cur) (g cb : Nat) (b : Nat → Int) (m : Int) (q : Option Addr) (n c2 : Nat) (ps : List Pst) (w : World) (hT : Tab w p len cs) (h1 : 1 ≤ len) (hl : len ≤ 1000) (ho : ∀ i, i < len → oobB (cAt cs i) = false) (hb : IR w g b len) (hin : ∀ i, In64 (b i)) (hm : In64 m) (hrow : PRow w q n ps) (hn : n ≤ 1000) :
    Calls Try.prog 24 #[.slice p len cap, .slice (some ⟨g, 0, none⟩) len cb, .int .i64 m, .slice q n c2] w (RetM (ifM cs len b m ps) w) := by
  have hpl := hrow.1
  obtain ⟨g1, c1, w1, hrun1, hI1, hs1, hG1⟩ := appI_run (w.alloc (.cells #[] 2)) w.heap.size g len cb b (heap_alloc_new w _) (hb.at (Below.heap_alloc _ _ _ hb.lt)) h1 hl
  have hB1 : Below w.heap.size w w1 := ((Below.refl _ w).alloc (Nat.le_refl _) _).grown hG1 (by simp) (fun k hk => by injection hk with hk; omega)
  have hS0 : ISt w len g1 b ps 0 w1 := ⟨fun q hq => by simp at hq, hI1, hB1⟩
  replace hS0 := Lib.hid hS0
  replace hrun1 := Lib.hid hrun1
  replace hT := Lib.hid hT
  replace ho := Lib.hid ho
  replace hin := Lib.hid hin
  replace hrow := Lib.hid hrow
  replace hs1 := Lib.hid hs1
  clear hI1 hG1 hB1 hb
  go_enter Try.func24, Try.ntmps24
  go_wp2_with (at_builtin; refine wpList_run rfl (.tmp 22) (.tmp 23) 43 43 rfl _ _ _ _ rfl rfl hrun1.out ?_)
  go_loopw [12] (fun i wr => ∃ k : Nat, k ≤ n ∧ i = .int .i64 (k : Int) ∧ Hid (ISt w len g1 b ps k wr)) (fun i _ => n - (intOf i).toNat)
  case atStart => exact ⟨0, by omega, rfl, hS0⟩
  case round =>
    obtain ⟨k, hk, rfl, hS⟩ := hrel
    by_cases hkl : k < n
    · have hkz : (k : Int) < (n : Int) := by omega
      have hT2 := hS.out
      have hws := hT2.blw.size
      obtain ⟨_, hin2, hrw⟩ := hrow.out
      obtain ⟨rb, off, rfl, hbs, hcells⟩ := hrw.resolve_left (by omega)
      obtain ⟨y, hq⟩ : ∃ y, ps[k]? = some y := ⟨ps[k], List.getElem?_eq_getElem (by omega)⟩
      obtain ⟨q0, q1, q2⟩ := hcells k y hq
      replace q0 := (hT2.blw.cell (p := ⟨rb, off + k * 3, none⟩) hbs).trans q0
      replace q1 := (hT2.blw.cell (p := ⟨rb, off + k * 3 + 1, none⟩) hbs).trans q1
      replace q2 := (hT2.blw.cell (p := ⟨rb, off + k * 3 + 2, none⟩) hbs).trans q2
      have hbx := heap_alloc_new wr (.cells #[.int .i64 y.m, .int .i64 y.c, .int .i64 y.a] 65)
      have hB1 : Below w.heap.size w (wr.alloc (.cells #[.int .i64 y.m, .int .i64 y.c, .int .i64 y.a] 65)) := hT2.blw.alloc hws _
      have hIa : IR (wr.alloc (.cells #[.int .i64 y.m, .int .i64 y.c, .int .i64 y.a] 65)) g1 b len := hT2.row.at (Below.heap_alloc _ _ _ hT2.row.lt)
      replace hcells := Lib.hid hcells
      replace hin2 := Lib.hid hin2
      replace hrw := Lib.hid hrw
      generalize hv1 : wr.alloc (.cells #[.int .i64 y.m, .int .i64 y.c, .int .i64 y.a] 65) = v1 at *
      have d1 : v1.cell? ⟨wr.heap.size, 1, none⟩ = some (.int .i64 y.c) := obj_cell hbx rfl
      replace hbx := Lib.hid hbx
      have hk1 := hT2.known
      replace hT2 := Lib.hid hT2
      replace hv1 := Lib.hid hv1
      replace hB1 := Lib.hid hB1
      replace hIa := Lib.hid hIa
      have hno : ¬ (0 ≤ y.c ∧ y.c < (len : Int)) → Hid (RetM (ifM cs len b m ps) w (.returned (.tuple #[.int .i64 0, .int .i64 0, .int .i64 1])) v1) := fun hc => by
        have e : knownC len ps = false := by
          unfold knownC
          rw [List.all_eq_false]
          exact ⟨y, List.mem_of_getElem? hq, by simpa using hc⟩
        refine Lib.hid ⟨?_, hB1.out⟩
        unfold ifM
        rw [e]
        rfl
      by_cases hc0 : y.c < 0
      · have hfin := hno (by omega)
        replace hk1 := Lib.hid hk1
        clear hno
        go_upto_region 6 with (fail)
        change Code.wp _ _ _ _ (wr.alloc (.cells #[.int .i64 y.m, .int .i64 y.c, .int .i64 y.a] 65))
        rw [hv1.out]
        go_wp2_with fail
        go_ret3
        exact hfin.out
      by_cases hc1 : (len : Int) ≤ y.c
      · have hfin := hno (by omega)
        replace hk1 := Lib.hid hk1
        clear hno
        go_upto_region 6 with (fail)
        change Code.wp _ _ _ _ (wr.alloc (.cells #[.int .i64 y.m, .int .i64 y.c, .int .i64 y.a] 65))
        rw [hv1.out]
        go_wp2_with fail
        go_ret3
        exact hfin.out
      have hS1 : ISt w len g1 b ps (k + 1) v1 := ⟨fun z hz => by
          rw [List.take_add_one, hq] at hz
          rcases List.mem_append.1 hz with h3 | h3
          · exact hk1 z h3
          · simp at h3; subst h3; omega, hIa.out, hB1.out⟩
      replace hS1 := Lib.hid hS1
      replace hk1 := Lib.hid hk1
      clear hno
      go_upto_region 6 with (fail)
      change Code.wp _ _ _ _ (wr.alloc (.cells #[.int .i64 y.m, .int .i64 y.c, .int .i64 y.a] 65))
      rw [hv1.out]
      go_wp2_with fail
      go_roundw
      case rel => exact ⟨k + 1, by omega, by go_num, hS1⟩
      case measure => simp [intOf]; omega
    · obtain rfl : k = n := by omega
      have hkz : ¬ (k : Int) < (k : Int) := by omega
      have hT2 := hS.out
      have htk : ps.take k = ps := List.take_of_length_le (by omega)
      have hkn : ∀ y ∈ ps, 0 ≤ y.c ∧ y.c < (len : Int) := by have := hT2.known; rwa [htk] at this
      have hJ0 : JSt w len g1 b m ps 0 b wr := ⟨hT2.row, rfl, hin.out, hT2.blw⟩
      replace hJ0 := Lib.hid hJ0
      replace hT2 := Lib.hid hT2
      replace hkn := Lib.hid hkn
      go_upto_region 9 with (fail)
      go_loopw [14] (fun i wr => ∃ (j : Nat) (d : Nat → Int), j ≤ k ∧ i = .int .i64 (j : Int) ∧ Hid (JSt w len g1 b m ps j d wr)) (fun i _ => k - (intOf i).toNat)
      case atStart => exact ⟨0, b, by omega, rfl, hJ0⟩
      case round =>
        obtain ⟨j, d, hj, rfl, hJ⟩ := hrel
        have hJ2 := hJ.out
        have hws := hJ2.blw.size
        by_cases hjk : j < k
        · have hjz : (j : Int) < (k : Int) := by omega
          obtain ⟨_, hin2, hrw⟩ := hrow.out
          obtain ⟨rb, off, rfl, hbs, hcells⟩ := hrw.resolve_left (by omega)
          obtain ⟨y, hq⟩ : ∃ y, ps[j]? = some y := ⟨ps[j], List.getElem?_eq_getElem (by omega)⟩
          obtain ⟨q0, q1, q2⟩ := hcells j y hq
          have hyc := hkn.out y (List.mem_of_getElem? hq)
          have hy64 := hin2 y (List.mem_of_getElem? hq)
          obtain ⟨c, hc⟩ : ∃ c : Nat, y.c = c := ⟨y.c.toNat, by omega⟩
          have hct : y.c.toNat = c := by omega
          have hcLt : c < len := by omega
          have hclz : (c : Int) < (len : Int) := by omega
          replace q0 := (hJ2.blw.cell (p := ⟨rb, off + j * 3, none⟩) hbs).trans q0
          replace q1 := (hJ2.blw.cell (p := ⟨rb, off + j * 3 + 1, none⟩) hbs).trans q1
          replace q2 := (hJ2.blw.cell (p := ⟨rb, off + j * 3 + 2, none⟩) hbs).trans q2
          rw [hc] at q1
          have hbx := heap_alloc_new wr (.cells #[.int .i64 y.m, .int .i64 (c : Int), .int .i64 y.a] 65)
          have hB1 : Below wr.heap.size wr (wr.alloc (.cells #[.int .i64 y.m, .int .i64 (c : Int), .int .i64 y.a] 65)) := (Below.refl _ _).alloc (Nat.le_refl _) _
          have hIa : IR (wr.alloc (.cells #[.int .i64 y.m, .int .i64 (c : Int), .int .i64 y.a] 65)) g1 d len := hJ2.row.at (Below.heap_alloc _ _ _ hJ2.row.lt)
          replace hcells := Lib.hid hcells
          replace hin2 := Lib.hid hin2
          replace hrw := Lib.hid hrw
          replace hc := Lib.hid hc
          generalize hv1 : wr.alloc (.cells #[.int .i64 y.m, .int .i64 (c : Int), .int .i64 y.a] 65) = v1 at *
          have d0 : v1.cell? ⟨wr.heap.size, 0, none⟩ = some (.int .i64 y.m) := obj_cell hbx rfl
          have d1 : v1.cell? ⟨wr.heap.size, 1, none⟩ = some (.int .i64 (c : Int)) := obj_cell hbx rfl
          have d2 : v1.cell? ⟨wr.heap.size, 2, none⟩ = some (.int .i64 y.a) := obj_cell hbx rfl
          have hbl := obj_lt hbx
          have hgl := hIa.lt
          have hge := hs1.out
          replace hbx := Lib.hid hbx
          replace hJ2 := Lib.hid hJ2
          replace hv1 := Lib.hid hv1
          replace hB1 := Lib.hid hB1
          replace hIa := Lib.hid hIa
          replace hq := Lib.hid hq
          replace hy64 := Lib.hid hy64
          replace hct := Lib.hid hct
          go_upto_region 12 with (fail)
          change Code.wp _ _ _ _ (wr.alloc (.cells #[.int .i64 y.m, .int .i64 (c : Int), .int .i64 y.a] 65))
          rw [hv1.out]
          clear q0 q1 q2
          by_cases hm2 : y.m = m
          · have hme : (y.m != m) = false := by simpa using hm2
            have hgo := hJ2.out.go
            rw [goI_step hq.out, if_pos hm2, hct.out] at hgo
            replace hgo := Lib.hid hgo
            replace hm2 := Lib.hid hm2
            go_upto_region 13 with (fail)
            obtain ⟨RC, hRC⟩ : ∃ R, chainL (d c) [y.a] = R := ⟨_, rfl⟩
            replace hRC := Lib.hid hRC
            go_cut [16, 17] from 59 to 70 (fun v16 v17 wc => v16 = .int .i64 RC.1 ∧ v17 = .int .i64 RC.2 ∧ Hid (Below v1.heap.size v1 wc))
            case first =>
              rename_i J1 K1 hJ1 hK1
              refine wp_region_closed (by kernel_rfl) (fun L az wz => ∃ v16 v17 v59 v60 v61 v62 v63 v64 v65 v66 v67 v68 v69 v70 : Value, az = ({ tmps := (Value.slice p len cap :: Value.slice (some ⟨g, 0, none⟩) len cb :: .int .i64 m :: Value.slice (some ⟨rb, off, none⟩) k c2 :: undef :: undef :: undef :: undef :: u8 :: u9 :: u10 :: Value.slice (some ⟨g1, 0, none⟩) len c1 :: .int .i64 (k : Int) :: u13 :: .int .i64 (j : Int) :: .pointer (some ⟨wr.heap.size, 0, none⟩) :: v16 :: v17 :: undef :: undef :: undef :: undef :: Value.slice (some ⟨w.heap.size, 0, none⟩) 0 0 :: Value.slice (some ⟨g, 0, none⟩) len cb :: Value.slice (some ⟨g1, 0, none⟩) len c1 :: .int .i64 (k : Int) :: Value.slice (some ⟨rb, off, none⟩) k c2 :: .int .i64 (k : Int) :: .bool false :: u29 :: u30 :: u31 :: u32 :: u33 :: u34 :: u35 :: u36 :: u37 :: u38 :: u39 :: u40 :: u41 :: u42 :: u43 :: u44 :: .int .i64 (j : Int) :: Value.slice (some ⟨rb, off, none⟩) k c2 :: .int .i64 (k : Int) :: .bool true :: u49 :: u50 :: Value.slice (some ⟨rb, off, none⟩) k c2 :: .int .i64 (j : Int) :: .pointer (some ⟨rb, off + j * 3, none⟩) :: .agg #[.int .i64 y.m, .int .i64 (c : Int), .int .i64 y.a] :: .pointer (some ⟨wr.heap.size, 0, none⟩) :: .int .i64 y.m :: .int .i64 m :: .bool false :: v59 :: v60 :: v61 :: v62 :: v63 :: v64 :: v65 :: v66 :: v67 :: v68 :: v69 :: v70 :: u71 :: u72 :: u73 :: u74 :: u75 :: u76 :: u77 :: u78 :: undef :: undef :: undef :: undef :: undef :: undef :: undef :: undef :: undef :: undef :: undef :: undef :: undef :: undef :: undef :: undef :: undef :: undef :: undef :: undef :: []).toArray, defers := [] } : Act) ∧ (Below v1.heap.size v1 wz) ∧ (L 7 = true → ∃ S : Nat, v67 = .slice (some ⟨S, 0, none⟩) 1 1 ∧ wz.heap[S]? = some (.cells #[.int .i64 y.a] 2 (0, 0))) ∧ (L 0 = true → v60 = Value.slice (some ⟨g1, 0, none⟩) len c1) ∧ (L 1 = true → v61 = .pointer (some ⟨wr.heap.size, 1, none⟩)) ∧ (L 2 = true → v62 = .int .i64 (c : Int)) ∧ (L 3 = true → v63 = .pointer (some ⟨g1, c, none⟩)) ∧ (L 4 = true → v64 = .int .i64 (d c)) ∧ (L 5 = true → v65 = .pointer (some ⟨wr.heap.size, 2, none⟩)) ∧ (L 6 = true → v66 = .int .i64 y.a) ∧ (L 8 = true → v68 = .tuple #[.int .i64 RC.1, .int .i64 RC.2]) ∧ (L 9 = true → v59 = .tuple #[.int .i64 RC.1, .int .i64 RC.2]) ∧ (L 10 = true → v69 = .int .i64 RC.1) ∧ (L 11 = true → v70 = .int .i64 RC.2) ∧ (L 12 = true → v16 = .int .i64 RC.1) ∧ (L 13 = true → v17 = .int .i64 RC.2)) (by kernel_rfl) ?_ ?_ ?_
              · exact ⟨_, _, _, _, _, _, _, _, _, _, _, _, _, _, rfl, (Below.refl _ _).drew, nofun, nofun, nofun, nofun, nofun, nofun, nofun, nofun, nofun, nofun, nofun, nofun, nofun, nofun⟩
              · intro L az wz iz hiz hni hI hdep hcl
                obtain ⟨v16, v17, v59, v60, v61, v62, v63, v64, v65, v66, v67, v68, v69, v70, rfl, hB, h7, h0, h1, h2, h3, h4, h5, h6, h8, h9, h10, h11, h12, h13⟩ := hI
                have hcase : iz = 0 ∨ iz = 1 ∨ iz = 2 ∨ iz = 3 ∨ iz = 4 ∨ iz = 5 ∨ iz = 6 ∨ iz = 7 ∨ iz = 8 ∨ iz = 9 ∨ iz = 10 ∨ iz = 11 ∨ iz = 12 ∨ iz = 13 := by
                  have hi2 : iz < 14 := hiz
                  omega
                rcases hcase with rfl | rfl | rfl | rfl | rfl | rfl | rfl | rfl | rfl | rfl | rfl | rfl | rfl | rfl
                · -- 0
                  refine wpOp_step rfl fun Kz hKz => ?_
                  go_simp
                  exact hKz _ _ ⟨_, _, _, _, _, _, _, _, _, _, _, _, _, _, rfl, hB, fun e => h7 (add_ne e (by decide)), fun _ => rfl, fun e => h1 (add_ne e (by decide)), fun e => h2 (add_ne e (by decide)), fun e => h3 (add_ne e (by decide)), fun e => h4 (add_ne e (by decide)), fun e => h5 (add_ne e (by decide)), fun e => h6 (add_ne e (by decide)), fun e => h8 (add_ne e (by decide)), fun e => h9 (add_ne e (by decide)), fun e => h10 (add_ne e (by decide)), fun e => h11 (add_ne e (by decide)), fun e => h12 (add_ne e (by decide)), fun e => h13 (add_ne e (by decide))⟩
                · -- 1
                  refine wpOp_step rfl fun Kz hKz => ?_
                  go_simp
                  exact hKz _ _ ⟨_, _, _, _, _, _, _, _, _, _, _, _, _, _, rfl, hB, fun e => h7 (add_ne e (by decide)), fun e => h0 (add_ne e (by decide)), fun _ => rfl, fun e => h2 (add_ne e (by decide)), fun e => h3 (add_ne e (by decide)), fun e => h4 (add_ne e (by decide)), fun e => h5 (add_ne e (by decide)), fun e => h6 (add_ne e (by decide)), fun e => h8 (add_ne e (by decide)), fun e => h9 (add_ne e (by decide)), fun e => h10 (add_ne e (by decide)), fun e => h11 (add_ne e (by decide)), fun e => h12 (add_ne e (by decide)), fun e => h13 (add_ne e (by decide))⟩
                · -- 2
                  have e1 := h1 (hdep 1 (by decide +kernel))
                  subst e1
                  have z := (hB.cell (p := ⟨wr.heap.size, 1, none⟩) hbl).trans d1
                  refine wpOp_step rfl fun Kz hKz => ?_
                  go_simp
                  exact hKz _ _ ⟨_, _, _, _, _, _, _, _, _, _, _, _, _, _, rfl, hB, fun e => h7 (add_ne e (by decide)), fun e => h0 (add_ne e (by decide)), fun e => h1 (add_ne e (by decide)), fun _ => rfl, fun e => h3 (add_ne e (by decide)), fun e => h4 (add_ne e (by decide)), fun e => h5 (add_ne e (by decide)), fun e => h6 (add_ne e (by decide)), fun e => h8 (add_ne e (by decide)), fun e => h9 (add_ne e (by decide)), fun e => h10 (add_ne e (by decide)), fun e => h11 (add_ne e (by decide)), fun e => h12 (add_ne e (by decide)), fun e => h13 (add_ne e (by decide))⟩
                · -- 3
                  have e0 := h0 (hdep 0 (by decide +kernel))
                  subst e0
                  have e2 := h2 (hdep 2 (by decide +kernel))
                  subst e2
                  refine wpOp_step rfl fun Kz hKz => ?_
                  go_simp
                  exact hKz _ _ ⟨_, _, _, _, _, _, _, _, _, _, _, _, _, _, rfl, hB, fun e => h7 (add_ne e (by decide)), fun e => h0 (add_ne e (by decide)), fun e => h1 (add_ne e (by decide)), fun e => h2 (add_ne e (by decide)), fun _ => rfl, fun e => h4 (add_ne e (by decide)), fun e => h5 (add_ne e (by decide)), fun e => h6 (add_ne e (by decide)), fun e => h8 (add_ne e (by decide)), fun e => h9 (add_ne e (by decide)), fun e => h10 (add_ne e (by decide)), fun e => h11 (add_ne e (by decide)), fun e => h12 (add_ne e (by decide)), fun e => h13 (add_ne e (by decide))⟩
                · -- 4
                  have e3 := h3 (hdep 3 (by decide +kernel))
                  subst e3
                  have z := (hIa.out.at (hB.block _ hgl)).cell hcLt
                  refine wpOp_step rfl fun Kz hKz => ?_
                  go_simp
                  exact hKz _ _ ⟨_, _, _, _, _, _, _, _, _, _, _, _, _, _, rfl, hB, fun e => h7 (add_ne e (by decide)), fun e => h0 (add_ne e (by decide)), fun e => h1 (add_ne e (by decide)), fun e => h2 (add_ne e (by decide)), fun e => h3 (add_ne e (by decide)), fun _ => rfl, fun e => h5 (add_ne e (by decide)), fun e => h6 (add_ne e (by decide)), fun e => h8 (add_ne e (by decide)), fun e => h9 (add_ne e (by decide)), fun e => h10 (add_ne e (by decide)), fun e => h11 (add_ne e (by decide)), fun e => h12 (add_ne e (by decide)), fun e => h13 (add_ne e (by decide))⟩
                · -- 5
                  refine wpOp_step rfl fun Kz hKz => ?_
                  go_simp
                  exact hKz _ _ ⟨_, _, _, _, _, _, _, _, _, _, _, _, _, _, rfl, hB, fun e => h7 (add_ne e (by decide)), fun e => h0 (add_ne e (by decide)), fun e => h1 (add_ne e (by decide)), fun e => h2 (add_ne e (by decide)), fun e => h3 (add_ne e (by decide)), fun e => h4 (add_ne e (by decide)), fun _ => rfl, fun e => h6 (add_ne e (by decide)), fun e => h8 (add_ne e (by decide)), fun e => h9 (add_ne e (by decide)), fun e => h10 (add_ne e (by decide)), fun e => h11 (add_ne e (by decide)), fun e => h12 (add_ne e (by decide)), fun e => h13 (add_ne e (by decide))⟩
                · -- 6
                  have e5 := h5 (hdep 5 (by decide +kernel))
                  subst e5
                  have z := (hB.cell (p := ⟨wr.heap.size, 2, none⟩) hbl).trans d2
                  refine wpOp_step rfl fun Kz hKz => ?_
                  go_simp
                  exact hKz _ _ ⟨_, _, _, _, _, _, _, _, _, _, _, _, _, _, rfl, hB, fun e => h7 (add_ne e (by decide)), fun e => h0 (add_ne e (by decide)), fun e => h1 (add_ne e (by decide)), fun e => h2 (add_ne e (by decide)), fun e => h3 (add_ne e (by decide)), fun e => h4 (add_ne e (by decide)), fun e => h5 (add_ne e (by decide)), fun _ => rfl, fun e => h8 (add_ne e (by decide)), fun e => h9 (add_ne e (by decide)), fun e => h10 (add_ne e (by decide)), fun e => h11 (add_ne e (by decide)), fun e => h12 (add_ne e (by decide)), fun e => h13 (add_ne e (by decide))⟩
                · -- 7
                  have e6 := h6 (hdep 6 (by decide +kernel))
                  subst e6
                  have hbb : Below wz.heap.size wz (wz.alloc (.cells #[.int .i64 y.a] 2)) := (Below.refl _ _).alloc (Nat.le_refl _) _
                  refine wpOp_step rfl fun Kz hKz => ?_
                  go_simp
                  exact hKz _ _ ⟨_, _, _, _, _, _, _, _, _, _, _, _, _, _, rfl, hB.trans (hbb.mono hB.size), fun _ => ⟨wz.heap.size, rfl, heap_alloc_new _ _⟩, fun e => h0 (add_ne e (by decide)), fun e => h1 (add_ne e (by decide)), fun e => h2 (add_ne e (by decide)), fun e => h3 (add_ne e (by decide)), fun e => h4 (add_ne e (by decide)), fun e => h5 (add_ne e (by decide)), fun e => h6 (add_ne e (by decide)), fun e => h8 (add_ne e (by decide)), fun e => h9 (add_ne e (by decide)), fun e => h10 (add_ne e (by decide)), fun e => h11 (add_ne e (by decide)), fun e => h12 (add_ne e (by decide)), fun e => h13 (add_ne e (by decide))⟩
                · -- 8
                  obtain ⟨S, e7, hS7⟩ := h7 (hdep 7 (by decide +kernel))
                  subst e7
                  have e4 := h4 (hdep 4 (by decide +kernel))
                  subst e4
                  have hcc := chainR_any (d c) (some ⟨S, 0, none⟩) 1 1 [y.a] wz (hJ2.out.ic c) (seqS hS7 hy64.out.2.2) (by omega)
                  rw [hRC.out] at hcc
                  replace hcc := Lib.hid hcc
                  refine wpOp_step rfl fun Kz hKz => ?_
                  go_simp
                  go_at_call 46
                  refine (hcc.out).mono ?_
                  rintro e w1 ⟨rfl, hb9⟩
                  have hB9 := hB.trans (hb9.mono hB.size)
                  go_simp
                  exact hKz _ _ ⟨_, _, _, _, _, _, _, _, _, _, _, _, _, _, rfl, hB9, fun e => ⟨S, rfl, (hb9.block _ (obj_lt hS7)).trans hS7⟩, fun e => h0 (add_ne e (by decide)), fun e => h1 (add_ne e (by decide)), fun e => h2 (add_ne e (by decide)), fun e => h3 (add_ne e (by decide)), fun e => h4 (add_ne e (by decide)), fun e => h5 (add_ne e (by decide)), fun e => h6 (add_ne e (by decide)), fun _ => rfl, fun e => h9 (add_ne e (by decide)), fun e => h10 (add_ne e (by decide)), fun e => h11 (add_ne e (by decide)), fun e => h12 (add_ne e (by decide)), fun e => h13 (add_ne e (by decide))⟩
                · -- 9
                  have e8 := h8 (hdep 8 (by decide +kernel))
                  subst e8
                  refine wpOp_step rfl fun Kz hKz => ?_
                  go_simp
                  exact hKz _ _ ⟨_, _, _, _, _, _, _, _, _, _, _, _, _, _, rfl, hB, fun e => h7 (add_ne e (by decide)), fun e => h0 (add_ne e (by decide)), fun e => h1 (add_ne e (by decide)), fun e => h2 (add_ne e (by decide)), fun e => h3 (add_ne e (by decide)), fun e => h4 (add_ne e (by decide)), fun e => h5 (add_ne e (by decide)), fun e => h6 (add_ne e (by decide)), fun e => h8 (add_ne e (by decide)), fun _ => rfl, fun e => h10 (add_ne e (by decide)), fun e => h11 (add_ne e (by decide)), fun e => h12 (add_ne e (by decide)), fun e => h13 (add_ne e (by decide))⟩
                · -- 10
                  have e9 := h9 (hdep 9 (by decide +kernel))
                  subst e9
                  refine wpOp_step rfl fun Kz hKz => ?_
                  go_simp
                  exact hKz _ _ ⟨_, _, _, _, _, _, _, _, _, _, _, _, _, _, rfl, hB, fun e => h7 (add_ne e (by decide)), fun e => h0 (add_ne e (by decide)), fun e => h1 (add_ne e (by decide)), fun e => h2 (add_ne e (by decide)), fun e => h3 (add_ne e (by decide)), fun e => h4 (add_ne e (by decide)), fun e => h5 (add_ne e (by decide)), fun e => h6 (add_ne e (by decide)), fun e => h8 (add_ne e (by decide)), fun e => h9 (add_ne e (by decide)), fun _ => rfl, fun e => h11 (add_ne e (by decide)), fun e => h12 (add_ne e (by decide)), fun e => h13 (add_ne e (by decide))⟩
                · -- 11
                  have e9 := h9 (hdep 9 (by decide +kernel))
                  subst e9
                  refine wpOp_step rfl fun Kz hKz => ?_
                  go_simp
                  exact hKz _ _ ⟨_, _, _, _, _, _, _, _, _, _, _, _, _, _, rfl, hB, fun e => h7 (add_ne e (by decide)), fun e => h0 (add_ne e (by decide)), fun e => h1 (add_ne e (by decide)), fun e => h2 (add_ne e (by decide)), fun e => h3 (add_ne e (by decide)), fun e => h4 (add_ne e (by decide)), fun e => h5 (add_ne e (by decide)), fun e => h6 (add_ne e (by decide)), fun e => h8 (add_ne e (by decide)), fun e => h9 (add_ne e (by decide)), fun e => h10 (add_ne e (by decide)), fun _ => rfl, fun e => h12 (add_ne e (by decide)), fun e => h13 (add_ne e (by decide))⟩
                · -- 12
                  have e10 := h10 (hdep 10 (by decide +kernel))
                  subst e10
                  refine wpOp_step rfl fun Kz hKz => ?_
                  go_simp
                  exact hKz _ _ ⟨_, _, _, _, _, _, _, _, _, _, _, _, _, _, rfl, hB, fun e => h7 (add_ne e (by decide)), fun e => h0 (add_ne e (by decide)), fun e => h1 (add_ne e (by decide)), fun e => h2 (add_ne e (by decide)), fun e => h3 (add_ne e (by decide)), fun e => h4 (add_ne e (by decide)), fun e => h5 (add_ne e (by decide)), fun e => h6 (add_ne e (by decide)), fun e => h8 (add_ne e (by decide)), fun e => h9 (add_ne e (by decide)), fun e => h10 (add_ne e (by decide)), fun e => h11 (add_ne e (by decide)), fun _ => rfl, fun e => h13 (add_ne e (by decide))⟩
                · -- 13
                  have e11 := h11 (hdep 11 (by decide +kernel))
                  subst e11
                  refine wpOp_step rfl fun Kz hKz => ?_
                  go_simp
                  exact hKz _ _ ⟨_, _, _, _, _, _, _, _, _, _, _, _, _, _, rfl, hB, fun e => h7 (add_ne e (by decide)), fun e => h0 (add_ne e (by decide)), fun e => h1 (add_ne e (by decide)), fun e => h2 (add_ne e (by decide)), fun e => h3 (add_ne e (by decide)), fun e => h4 (add_ne e (by decide)), fun e => h5 (add_ne e (by decide)), fun e => h6 (add_ne e (by decide)), fun e => h8 (add_ne e (by decide)), fun e => h9 (add_ne e (by decide)), fun e => h10 (add_ne e (by decide)), fun e => h11 (add_ne e (by decide)), fun e => h12 (add_ne e (by decide)), fun _ => rfl⟩
              · intro L az wz hI hL
                obtain ⟨v16, v17, v59, v60, v61, v62, v63, v64, v65, v66, v67, v68, v69, v70, rfl, hB, h7, h0, h1, h2, h3, h4, h5, h6, h8, h9, h10, h11, h12, h13⟩ := hI
                refine hK1 _ _ (Met.intro (hJ1 _ _ ?_))
                (repeat apply Exists.intro)
                refine ⟨?rel, rfl⟩
                case rel => exact ⟨h12 (hL 12 (by decide)), h13 (hL 13 (by decide)), hB⟩
            case rest =>
              obtain ⟨rfl, rfl, hBc⟩ := hcut
              have hB2 : Below w.heap.size w wc := hJ2.out.blw.trans ((hB1.out.trans (hBc.out.mono hB1.out.size)).mono hws)
              by_cases hI : In64 (d c + y.a)
              · have hRe : RC = (d c + y.a, 0) := by rw [← hRC.out]; exact chain1_yes hI
                have hgo2 := hgo.out
                rw [if_pos hI] at hgo2
                have hIc : IR wc g1 d len := hIa.out.at (hBc.out.block _ hgl)
                have hdc : wc.cell? ⟨wr.heap.size, 1, none⟩ = some (.int .i64 (c : Int)) := (hBc.out.cell (p := ⟨wr.heap.size, 1, none⟩) hbl).trans d1
                have x0 := hIc.cell hcLt
                have xz := hIc.free c
                have hJn : JSt w len g1 b m ps (j + 1) (upd d c (d c + y.a)) (wc.setCell ⟨g1, c, none⟩ (.int .i64 (d c + y.a))) := ⟨hIc.set hcLt _, hgo2, upd_in hJ2.out.ic hI, hB2.setCell hge _⟩
                subst hRe
                replace hJn := Lib.hid hJn
                replace hIc := Lib.hid hIc
                replace hgo2 := Lib.hid hgo2
                replace hI := Lib.hid hI
                replace hB2 := Lib.hid hB2
                clear d0 d1 d2
                go_wp2_with fail
                go_roundw
                case rel => exact ⟨j + 1, _, by omega, by go_num, hJn⟩
                case measure => simp [intOf]; omega
              · have hRe : RC = (0, 3) := by rw [← hRC.out]; exact chain1_no hI
                have hno : goI m b ps = none := by rw [← hgo.out, if_neg hI]
                have eR : ifM cs len b m ps = (0, 0, 3) := ifM_over (known_yes (fun y hy => hkn.out y hy)) hno
                subst hRe
                replace eR := Lib.hid eR
                replace hno := Lib.hid hno
                replace hI := Lib.hid hI
                replace hB2 := Lib.hid hB2
                go_wp2_with fail
                go_ret3
                unfold RetM
                rw [eR.out]
                exact ⟨rfl, hB2.out⟩
          · have hme : (y.m != m) = true := by simpa using hm2
            have hgo := hJ2.out.go
            rw [goI_step hq.out, if_neg hm2] at hgo
            have hJn : JSt w len g1 b m ps (j + 1) d v1 := ⟨hIa.out, hgo, hJ2.out.ic, hJ2.out.blw.trans (hB1.out.mono hws)⟩
            replace hJn := Lib.hid hJn
            replace hgo := Lib.hid hgo
            replace hm2 := Lib.hid hm2
            go_wp2_with fail
            go_roundw
            case rel => exact ⟨j + 1, d, by omega, by go_num, hJn⟩
            case measure => simp [intOf]; omega
        · obtain rfl : j = k := by omega
          have hjz : ¬ (j : Int) < (j : Int) := by omega
          have hgo : goI m b ps = some d := by
            have := hJ2.go
            rw [List.drop_eq_nil_of_le (by omega)] at this
            exact this.symm
          have eR : ifM cs len b m ps = bothM cs len d := ifM_known (known_yes (fun y hy => hkn.out y hy)) hgo
          have cN := netR_any p len cap cs g1 c1 d wr (hT.out.kept hJ2.blw) hl ho.out hJ2.row hJ2.ic
          have cS := fun wv (h : Below wr.heap.size wr wv) => shortR_any p len cap cs g1 c1 d wv ((hT.out.kept hJ2.blw).kept h) hl ho.out (hJ2.row.at (h.block _ hJ2.row.lt)) hJ2.ic
          unfold bothM at eR
          obtain ⟨_, hn⟩ := net_in cs d len 0 0 ⟨by decide, by decide⟩
          obtain ⟨_, hs⟩ := short_in cs d len 0 0 ⟨by decide, by decide⟩
          generalize netF cs d len 0 0 = NV at *
          generalize shortF cs d len 0 0 = SV at *
          obtain ⟨n1, n2⟩ := NV
          obtain ⟨s1, s2⟩ := SV
          dsimp only at hn hs eR cN cS
          replace cN := Lib.hid cN
          replace cS := Lib.hid cS
          replace hgo := Lib.hid hgo
          replace hJ2 := Lib.hid hJ2
          rcases hn with rfl | rfl
          · rcases hs with rfl | rfl
            · rw [if_pos ⟨rfl, rfl⟩] at eR
              replace eR := Lib.hid eR
              go_wp2_with (first | (go_at_call 22; (with_reducible refine cN.out.mono ?_); rintro e v1 ⟨rfl, hb1⟩; have cS1 := Lib.hid (cS.out _ hb1); replace hb1 := Lib.hid hb1) | (go_at_call 23; (with_reducible refine cS1.out.mono ?_); rintro e v2 ⟨rfl, hb2⟩; replace hb2 := Lib.hid hb2))
              go_ret3
              unfold RetM
              rw [eR.out]
              exact ⟨rfl, chain_trans (chain_trans hJ2.out.blw hb1.out) hb2.out⟩
            · rw [if_neg (fun h => absurd h.2 (by decide))] at eR
              replace eR := Lib.hid eR
              go_wp2_with (first | (go_at_call 22; (with_reducible refine cN.out.mono ?_); rintro e v1 ⟨rfl, hb1⟩; have cS1 := Lib.hid (cS.out _ hb1); replace hb1 := Lib.hid hb1) | (go_at_call 23; (with_reducible refine cS1.out.mono ?_); rintro e v2 ⟨rfl, hb2⟩; replace hb2 := Lib.hid hb2))
              go_ret3
              unfold RetM
              rw [eR.out]
              exact ⟨rfl, chain_trans (chain_trans hJ2.out.blw hb1.out) hb2.out⟩
          · rw [if_neg (fun h => absurd h.1 (by decide))] at eR
            replace eR := Lib.hid eR
            go_wp2_with (first | (go_at_call 22; (with_reducible refine cN.out.mono ?_); rintro e v1 ⟨rfl, hb1⟩; have cS1 := Lib.hid (cS.out _ hb1); replace hb1 := Lib.hid hb1) | (go_at_call 23; (with_reducible refine cS1.out.mono ?_); rintro e v2 ⟨rfl, hb2⟩; replace hb2 := Lib.hid hb2))
            go_ret3
            unfold RetM
            rw [eR.out]
            exact ⟨rfl, chain_trans (chain_trans hJ2.out.blw hb1.out) hb2.out⟩
end Go.Proofs.Ytllhpdohahoelaa
