/- The reference's Read; DealReads' walk. -/
import Derived.Test.YtflbggehgjllcaaDoorUP
import Derived.Test.YtflbggehgjllcaaDoorUG
import Derived.Test.YtflbggehgjllcaaDoorRC
import Derived.Test.YtflbggehgjllcaaDoorQT
namespace Go.Proofs.YtflbggehgjllcaaDoor
open Go.RowKit
set_option linter.unusedVariables false
set_option maxHeartbeats 8000000 in
set_option maxRecDepth 100000 in
theorem read12_any {Q : Exit → Act → World → Prop} {P : Nat → Prop} {rb bx : Nat} {b : Bk} {p : Option Addr} {cap n : Nat} {x : En} {w : World}
    (hR : RBv P w rb b (.slice p n cap)) (hn : n = b.l.length) (hlen : n ≤ 1000) (hbo : w.heap[bx]? = some (.cells #[.int .i64 x.d.id, .int .i64 x.d.a, .int .i64 x.d.b, .int .i64 x.d.sc, .int .i64 x.d.bc, .int .i64 x.d.s, .int .i64 x.d.t, .int .i64 x.st, .bool x.byA, .bool x.byB, .int .i64 x.nth] 61 (0, 0))) (hbxr : bx ≠ rb) (hbxv : ∀ g, (Value.slice p n cap).ownBlock = some g → g ≠ bx) (hf : ∀ j, w.heap.size ≤ j → P j)
    (u0 u1 u2 u3 u4 u5 u6 u7 u9 u10 u11 u13 u14 u15 u16 u17 u18 u19 u20 u21 u22 u23 u24 u25 u26 u27 u28 u29 u30 u31 u32 u33 u34 u35 u36 u37 u38 u39 u40 u41 u42 u43 u44 u45 u46 u47 u48 u49 u50 u51 u52 u53 u54 u55 u56 u57 u58 u59 u60 u61 u62 u63 u64 u65 u66 u67 u68 u69 u70 u71 u72 u73 u74 u75 u76 u77 u78 u79 u80 u81 u82 u83 u84 u85 u86 u87 u88 u89 u90 u91 u92 u93 u94 u95 u96 u97 u98 u99 u100 u101 u102 u103 u104 u105 u106 u107 u108 u109 u110 u111 u112 u113 u114 u115 u116 u117 u118 u119 u120 u121 u122 u123 u124 u125 u126 u127 u128 u129 u130 u131 u132 u133 u134 u135 u136 u137 u138 u139 u140 u141 u142 u143 u144 u145 u146 u147 u148 u149 u150 u151 u152 u153 u154 u155 u156 u157 u158 u159 u160 u161 u162 u163 u164 u165 u166 u167 u168 u169 u170 u171 u172 u173 u174 u175 : Value)
    (hK : ∀ (v123 v124 v125 v126 v127 v128 v129 v130 v131 v132 : Value) (wz : World), RB P wz rb { b with l := b.l ++ [x] } → Kp P w wz → wz.heap[bx]? = w.heap[bx]? → Q .normal ({ tmps := (u0 :: u1 :: u2 :: u3 :: u4 :: u5 :: u6 :: u7 :: Value.pointer (some ⟨rb, 0, none⟩) :: u9 :: u10 :: u11 :: Value.pointer (some ⟨bx, 0, none⟩) :: u13 :: u14 :: u15 :: u16 :: u17 :: u18 :: u19 :: u20 :: u21 :: u22 :: u23 :: u24 :: u25 :: u26 :: u27 :: u28 :: u29 :: u30 :: u31 :: u32 :: u33 :: u34 :: u35 :: u36 :: u37 :: u38 :: u39 :: u40 :: u41 :: u42 :: u43 :: u44 :: u45 :: u46 :: u47 :: u48 :: u49 :: u50 :: u51 :: u52 :: u53 :: u54 :: u55 :: u56 :: u57 :: u58 :: u59 :: u60 :: u61 :: u62 :: u63 :: u64 :: u65 :: u66 :: u67 :: u68 :: u69 :: u70 :: u71 :: u72 :: u73 :: u74 :: u75 :: u76 :: u77 :: u78 :: u79 :: u80 :: u81 :: u82 :: u83 :: u84 :: u85 :: u86 :: u87 :: u88 :: u89 :: u90 :: u91 :: u92 :: u93 :: u94 :: u95 :: u96 :: u97 :: u98 :: u99 :: u100 :: u101 :: u102 :: u103 :: u104 :: u105 :: u106 :: u107 :: u108 :: u109 :: u110 :: u111 :: u112 :: u113 :: u114 :: u115 :: u116 :: u117 :: u118 :: u119 :: u120 :: u121 :: u122 :: v123 :: v124 :: v125 :: v126 :: v127 :: v128 :: v129 :: v130 :: v131 :: v132 :: u133 :: u134 :: u135 :: u136 :: u137 :: u138 :: u139 :: u140 :: u141 :: u142 :: u143 :: u144 :: u145 :: u146 :: u147 :: u148 :: u149 :: u150 :: u151 :: u152 :: u153 :: u154 :: u155 :: u156 :: u157 :: u158 :: u159 :: u160 :: u161 :: u162 :: u163 :: u164 :: u165 :: u166 :: u167 :: u168 :: u169 :: u170 :: u171 :: u172 :: u173 :: u174 :: u175 :: []).toArray, defers := [] } : Act) wz) :
    Code.wp Tryd.prog cread12 Q ({ tmps := (u0 :: u1 :: u2 :: u3 :: u4 :: u5 :: u6 :: u7 :: Value.pointer (some ⟨rb, 0, none⟩) :: u9 :: u10 :: u11 :: Value.pointer (some ⟨bx, 0, none⟩) :: u13 :: u14 :: u15 :: u16 :: u17 :: u18 :: u19 :: u20 :: u21 :: u22 :: u23 :: u24 :: u25 :: u26 :: u27 :: u28 :: u29 :: u30 :: u31 :: u32 :: u33 :: u34 :: u35 :: u36 :: u37 :: u38 :: u39 :: u40 :: u41 :: u42 :: u43 :: u44 :: u45 :: u46 :: u47 :: u48 :: u49 :: u50 :: u51 :: u52 :: u53 :: u54 :: u55 :: u56 :: u57 :: u58 :: u59 :: u60 :: u61 :: u62 :: u63 :: u64 :: u65 :: u66 :: u67 :: u68 :: u69 :: u70 :: u71 :: u72 :: u73 :: u74 :: u75 :: u76 :: u77 :: u78 :: u79 :: u80 :: u81 :: u82 :: u83 :: u84 :: u85 :: u86 :: u87 :: u88 :: u89 :: u90 :: u91 :: u92 :: u93 :: u94 :: u95 :: u96 :: u97 :: u98 :: u99 :: u100 :: u101 :: u102 :: u103 :: u104 :: u105 :: u106 :: u107 :: u108 :: u109 :: u110 :: u111 :: u112 :: u113 :: u114 :: u115 :: u116 :: u117 :: u118 :: u119 :: u120 :: u121 :: u122 :: u123 :: u124 :: u125 :: u126 :: u127 :: u128 :: u129 :: u130 :: u131 :: u132 :: u133 :: u134 :: u135 :: u136 :: u137 :: u138 :: u139 :: u140 :: u141 :: u142 :: u143 :: u144 :: u145 :: u146 :: u147 :: u148 :: u149 :: u150 :: u151 :: u152 :: u153 :: u154 :: u155 :: u156 :: u157 :: u158 :: u159 :: u160 :: u161 :: u162 :: u163 :: u164 :: u165 :: u166 :: u167 :: u168 :: u169 :: u170 :: u171 :: u172 :: u173 :: u174 :: u175 :: []).toArray, defers := [] } : Act) w := by
  have hrow : Hid (w.ownsRow 0 61 11 (.slice p n cap) n (cellsR b.l)) := Lib.hid (by have := hR.row; rwa [← hn] at this)
  have hobj := Lib.hid hR.obj
  have hrbP := hR.pg
  have hpv : Hid (∀ g, (Value.slice p n cap).ownBlock = some g → P g ∧ g ≠ rb ∧ g ≠ bx) := Lib.hid fun g hg => ⟨hR.pv g hg, fun e => hR.nv (by rw [hg, e]), hbxv g hg⟩
  have hrl := hR.lt
  have hbl : bx < w.heap.size := obj_lt hbo
  have c2 : w.cell? ⟨rb, 2, none⟩ = some (.slice p n cap) := obj_cell hR.obj rfl
  replace hK := Lib.hid hK
  replace hbo := Lib.hid hbo
  replace hn := Lib.hid hn
  replace hR := Lib.hid hR
  conv => arg 2; whnf
  refine wp_region_closed (by kernel_rfl) (fun L az wz => ∃ v123 v124 v125 v126 v127 v128 v129 v130 v131 v132 : Value, az = ({ tmps := (u0 :: u1 :: u2 :: u3 :: u4 :: u5 :: u6 :: u7 :: Value.pointer (some ⟨rb, 0, none⟩) :: u9 :: u10 :: u11 :: Value.pointer (some ⟨bx, 0, none⟩) :: u13 :: u14 :: u15 :: u16 :: u17 :: u18 :: u19 :: u20 :: u21 :: u22 :: u23 :: u24 :: u25 :: u26 :: u27 :: u28 :: u29 :: u30 :: u31 :: u32 :: u33 :: u34 :: u35 :: u36 :: u37 :: u38 :: u39 :: u40 :: u41 :: u42 :: u43 :: u44 :: u45 :: u46 :: u47 :: u48 :: u49 :: u50 :: u51 :: u52 :: u53 :: u54 :: u55 :: u56 :: u57 :: u58 :: u59 :: u60 :: u61 :: u62 :: u63 :: u64 :: u65 :: u66 :: u67 :: u68 :: u69 :: u70 :: u71 :: u72 :: u73 :: u74 :: u75 :: u76 :: u77 :: u78 :: u79 :: u80 :: u81 :: u82 :: u83 :: u84 :: u85 :: u86 :: u87 :: u88 :: u89 :: u90 :: u91 :: u92 :: u93 :: u94 :: u95 :: u96 :: u97 :: u98 :: u99 :: u100 :: u101 :: u102 :: u103 :: u104 :: u105 :: u106 :: u107 :: u108 :: u109 :: u110 :: u111 :: u112 :: u113 :: u114 :: u115 :: u116 :: u117 :: u118 :: u119 :: u120 :: u121 :: u122 :: v123 :: v124 :: v125 :: v126 :: v127 :: v128 :: v129 :: v130 :: v131 :: v132 :: u133 :: u134 :: u135 :: u136 :: u137 :: u138 :: u139 :: u140 :: u141 :: u142 :: u143 :: u144 :: u145 :: u146 :: u147 :: u148 :: u149 :: u150 :: u151 :: u152 :: u153 :: u154 :: u155 :: u156 :: u157 :: u158 :: u159 :: u160 :: u161 :: u162 :: u163 :: u164 :: u165 :: u166 :: u167 :: u168 :: u169 :: u170 :: u171 :: u172 :: u173 :: u174 :: u175 :: []).toArray, defers := [] } : Act) ∧ (L 7 = false → Below w.heap.size w wz) ∧ (L 6 = true → L 7 = false → ∃ e : Nat, v129 = .slice (some ⟨e, 0, none⟩) 1 1 ∧ wz.heap[e]? = some (.cells #[.int .i64 x.d.id, .int .i64 x.d.a, .int .i64 x.d.b, .int .i64 x.d.sc, .int .i64 x.d.bc, .int .i64 x.d.s, .int .i64 x.d.t, .int .i64 x.st, .bool x.byA, .bool x.byB, .int .i64 x.nth] 61 (0, 0)) ∧ w.heap.size ≤ e) ∧ (L 7 = true → L 10 = false → (Kp P w wz ∧ wz.heap[rb]? = w.heap[rb]? ∧ wz.heap[bx]? = w.heap[bx]? ∧ wz.ownsRow 0 61 11 v130 (n + 1) (cellsR b.l ++ [.int .i64 x.d.id, .int .i64 x.d.a, .int .i64 x.d.b, .int .i64 x.d.sc, .int .i64 x.d.bc, .int .i64 x.d.s, .int .i64 x.d.t, .int .i64 x.st, .bool x.byA, .bool x.byB, .int .i64 x.nth]) ∧ ∀ g, v130.ownBlock = some g → P g ∧ g ≠ rb)) ∧ (L 10 = true → ∃ (w7 : World) (u : Value), (Kp P w w7 ∧ w7.heap[rb]? = w.heap[rb]? ∧ w7.heap[bx]? = w.heap[bx]? ∧ w7.ownsRow 0 61 11 u (n + 1) (cellsR b.l ++ [.int .i64 x.d.id, .int .i64 x.d.a, .int .i64 x.d.b, .int .i64 x.d.sc, .int .i64 x.d.bc, .int .i64 x.d.s, .int .i64 x.d.t, .int .i64 x.st, .bool x.byA, .bool x.byB, .int .i64 x.nth]) ∧ ∀ g, u.ownBlock = some g → P g ∧ g ≠ rb) ∧ wz = w7.setCell ⟨rb, 2, none⟩ u) ∧ (L 0 = true → v123 = Value.pointer (some ⟨rb, 0, none⟩)) ∧ (L 1 = true → v124 = Value.pointer (some ⟨rb, 0, none⟩)) ∧ (L 2 = true → v125 = Value.pointer (some ⟨rb, 0, none⟩)) ∧ (L 3 = true → v126 = Value.pointer (some ⟨rb, 2, none⟩)) ∧ (L 4 = true → v127 = Value.slice p n cap) ∧ (L 5 = true → v128 = Value.agg #[.int .i64 x.d.id, .int .i64 x.d.a, .int .i64 x.d.b, .int .i64 x.d.sc, .int .i64 x.d.bc, .int .i64 x.d.s, .int .i64 x.d.t, .int .i64 x.st, .bool x.byA, .bool x.byB, .int .i64 x.nth]) ∧ (L 8 = true → v131 = Value.pointer (some ⟨rb, 0, none⟩)) ∧ (L 9 = true → v132 = Value.pointer (some ⟨rb, 2, none⟩))) (by kernel_rfl) ?_ ?_ ?_
  · exact ⟨_, _, _, _, _, _, _, _, _, _, rfl, fun _ => (Below.refl _ _).drew, nofun, nofun, nofun, nofun, nofun, nofun, nofun, nofun, nofun, nofun, nofun⟩
  · intro L az wz iz hiz hni hI hdep hcl
    obtain ⟨v123, v124, v125, v126, v127, v128, v129, v130, v131, v132, rfl, hB, h6, h7, h10, k0, k1, k2, k3, k4, k5, k8, k9⟩ := hI
    have hcase : iz = 0 ∨ iz = 1 ∨ iz = 2 ∨ iz = 3 ∨ iz = 4 ∨ iz = 5 ∨ iz = 6 ∨ iz = 7 ∨ iz = 8 ∨ iz = 9 ∨ iz = 10 := by
      have hi2 : iz < 11 := hiz
      omega
    rcases hcase with rfl | rfl | rfl | rfl | rfl | rfl | rfl | rfl | rfl | rfl | rfl
    · -- 0
      refine wpOp_step rfl fun Kz hKz => ?_
      go_simp
      exact hKz _ _ ⟨_, _, _, _, _, _, _, _, _, _, rfl, fun f => hB (add_nf f), fun e f => h6 (add_ne e (by decide)) (add_nf f), fun e f => h7 (add_ne e (by decide)) (add_nf f), fun e => h10 (add_ne e (by decide)), fun _ => rfl, fun e => k1 (add_ne e (by decide)), fun e => k2 (add_ne e (by decide)), fun e => k3 (add_ne e (by decide)), fun e => k4 (add_ne e (by decide)), fun e => k5 (add_ne e (by decide)), fun e => k8 (add_ne e (by decide)), fun e => k9 (add_ne e (by decide))⟩
    · -- 1
      refine wpOp_step rfl fun Kz hKz => ?_
      go_simp
      exact hKz _ _ ⟨_, _, _, _, _, _, _, _, _, _, rfl, fun f => hB (add_nf f), fun e f => h6 (add_ne e (by decide)) (add_nf f), fun e f => h7 (add_ne e (by decide)) (add_nf f), fun e => h10 (add_ne e (by decide)), fun e => k0 (add_ne e (by decide)), fun _ => rfl, fun e => k2 (add_ne e (by decide)), fun e => k3 (add_ne e (by decide)), fun e => k4 (add_ne e (by decide)), fun e => k5 (add_ne e (by decide)), fun e => k8 (add_ne e (by decide)), fun e => k9 (add_ne e (by decide))⟩
    · -- 2
      have e1 := k1 (hdep 1 (by decide +kernel))
      subst e1
      refine wpOp_step rfl fun Kz hKz => ?_
      go_simp
      exact hKz _ _ ⟨_, _, _, _, _, _, _, _, _, _, rfl, fun f => hB (add_nf f), fun e f => h6 (add_ne e (by decide)) (add_nf f), fun e f => h7 (add_ne e (by decide)) (add_nf f), fun e => h10 (add_ne e (by decide)), fun e => k0 (add_ne e (by decide)), fun e => k1 (add_ne e (by decide)), fun _ => rfl, fun e => k3 (add_ne e (by decide)), fun e => k4 (add_ne e (by decide)), fun e => k5 (add_ne e (by decide)), fun e => k8 (add_ne e (by decide)), fun e => k9 (add_ne e (by decide))⟩
    · -- 3
      have e2 := k2 (hdep 2 (by decide +kernel))
      subst e2
      refine wpOp_step rfl fun Kz hKz => ?_
      go_simp
      exact hKz _ _ ⟨_, _, _, _, _, _, _, _, _, _, rfl, fun f => hB (add_nf f), fun e f => h6 (add_ne e (by decide)) (add_nf f), fun e f => h7 (add_ne e (by decide)) (add_nf f), fun e => h10 (add_ne e (by decide)), fun e => k0 (add_ne e (by decide)), fun e => k1 (add_ne e (by decide)), fun e => k2 (add_ne e (by decide)), fun _ => rfl, fun e => k4 (add_ne e (by decide)), fun e => k5 (add_ne e (by decide)), fun e => k8 (add_ne e (by decide)), fun e => k9 (add_ne e (by decide))⟩
    · -- 4
      have hf7 : L 7 = false := by
        cases h : L 7 with
        | false => rfl
        | true => have := hcl 7 (h) 4 (by decide +kernel); rw [hni] at this; cases this
      have hBz := hB hf7
      have e3 := k3 (hdep 3 (by decide +kernel))
      subst e3
      have z := (hBz.cell (p := ⟨rb, 2, none⟩) hrl).trans c2
      refine wpOp_step rfl fun Kz hKz => ?_
      go_simp
      exact hKz _ _ ⟨_, _, _, _, _, _, _, _, _, _, rfl, fun f => hB (add_nf f), fun e f => h6 (add_ne e (by decide)) (add_nf f), fun e f => h7 (add_ne e (by decide)) (add_nf f), fun e => h10 (add_ne e (by decide)), fun e => k0 (add_ne e (by decide)), fun e => k1 (add_ne e (by decide)), fun e => k2 (add_ne e (by decide)), fun e => k3 (add_ne e (by decide)), fun _ => rfl, fun e => k5 (add_ne e (by decide)), fun e => k8 (add_ne e (by decide)), fun e => k9 (add_ne e (by decide))⟩
    · -- 5
      have hf6 : L 6 = false := by
        cases h : L 6 with
        | false => rfl
        | true => have := hcl 6 (h) 5 (by decide +kernel); rw [hni] at this; cases this
      have hf7 : L 7 = false := by
        cases h : L 7 with
        | false => rfl
        | true => have := hcl 7 (h) 6 (by decide +kernel); rw [hf6] at this; cases this
      have hBz := hB hf7
      have hz := (hBz.block bx hbl).trans hbo.out
      have z0 := obj_cell hz (i := 0) rfl
      have z1 := obj_cell hz (i := 1) rfl
      have z2 := obj_cell hz (i := 2) rfl
      have z3 := obj_cell hz (i := 3) rfl
      have z4 := obj_cell hz (i := 4) rfl
      have z5 := obj_cell hz (i := 5) rfl
      have z6 := obj_cell hz (i := 6) rfl
      have z7 := obj_cell hz (i := 7) rfl
      have z8 := obj_cell hz (i := 8) rfl
      have z9 := obj_cell hz (i := 9) rfl
      have z10 := obj_cell hz (i := 10) rfl
      clear hz
      refine wpOp_step rfl fun Kz hKz => ?_
      go_simp
      exact hKz _ _ ⟨_, _, _, _, _, _, _, _, _, _, rfl, fun f => hB (add_nf f), fun e f => h6 (add_ne e (by decide)) (add_nf f), fun e f => h7 (add_ne e (by decide)) (add_nf f), fun e => h10 (add_ne e (by decide)), fun e => k0 (add_ne e (by decide)), fun e => k1 (add_ne e (by decide)), fun e => k2 (add_ne e (by decide)), fun e => k3 (add_ne e (by decide)), fun e => k4 (add_ne e (by decide)), fun _ => rfl, fun e => k8 (add_ne e (by decide)), fun e => k9 (add_ne e (by decide))⟩
    · -- 6
      have hf7 : L 7 = false := by
        cases h : L 7 with
        | false => rfl
        | true => have := hcl 7 (h) 6 (by decide +kernel); rw [hni] at this; cases this
      have hf10 : L 10 = false := by
        cases h : L 10 with
        | false => rfl
        | true => have := hcl 10 (h) 7 (by decide +kernel); rw [hf7] at this; cases this
      have hBz := hB hf7
      have e5 := k5 (hdep 5 (by decide +kernel))
      subst e5
      have hbb : Below wz.heap.size wz (wz.alloc (.cells #[.int .i64 x.d.id, .int .i64 x.d.a, .int .i64 x.d.b, .int .i64 x.d.sc, .int .i64 x.d.bc, .int .i64 x.d.s, .int .i64 x.d.t, .int .i64 x.st, .bool x.byA, .bool x.byB, .int .i64 x.nth] 61)) := (Below.refl _ _).alloc (Nat.le_refl _) _
      have hBz2 := hBz.trans (hbb.mono hBz.size)
      have hsz := hBz.size
      refine wpOp_step rfl fun Kz hKz => ?_
      go_simp
      exact hKz _ _ ⟨_, _, _, _, _, _, _, _, _, _, rfl, fun _ => hBz2, fun _ _ => ⟨wz.heap.size, rfl, heap_alloc_new _ _, hsz⟩, fun e => absurd (add_ne e (by decide)) (by rw [hf7]; decide), fun e => absurd (add_ne e (by decide)) (by rw [hf10]; decide), fun e => k0 (add_ne e (by decide)), fun e => k1 (add_ne e (by decide)), fun e => k2 (add_ne e (by decide)), fun e => k3 (add_ne e (by decide)), fun e => k4 (add_ne e (by decide)), fun e => k5 (add_ne e (by decide)), fun e => k8 (add_ne e (by decide)), fun e => k9 (add_ne e (by decide))⟩
    · -- 7
      have hf10 : L 10 = false := by
        cases h : L 10 with
        | false => rfl
        | true => have := hcl 10 (h) 7 (by decide +kernel); rw [hni] at this; cases this
      have hBz := hB hni
      obtain ⟨e', e6, hE, hEb⟩ := h6 (hdep 6 (by decide +kernel)) hni
      have e4 := k4 (hdep 4 (by decide +kernel))
      subst e6
      subst e4
      have hsz := hBz.size
      have hO : wz.ownsRow 0 61 11 (.slice p n cap) n (cellsR b.l) := orow_kept hrow.out fun g hg => hBz.block g (World.ownsRow.lt hrow.out g hg).2
      obtain ⟨v', w', hrun, hO2, hG, hO3⟩ := app1_run 57 61 11 80 _ Tryd.underlying57 info61 (by rfl) (by omega) (by omega) wz _ n (cellsR b.l) hO ⟨e', 0, none⟩ [.int .i64 x.d.id, .int .i64 x.d.a, .int .i64 x.d.b, .int .i64 x.d.sc, .int .i64 x.d.bc, .int .i64 x.d.s, .int .i64 x.d.t, .int .i64 x.st, .bool x.byA, .bool x.byB, .int .i64 x.nth] rfl (fun j u hu => by have ea : (⟨e', 0, none⟩ : Addr).add j = ⟨e', j, none⟩ := (by unfold Addr.add; split <;> simp_all); rw [ea]; exact obj_cell hE (by simpa using hu)) (fun u hu => x.rcs_one u hu) (by omega)
      have hKz2 : Kp P w w' := (Kp.of_below hBz).grown hG fun k hk => .inl (hpv.out k hk).1
      have hrz : w'.heap[rb]? = w.heap[rb]? := (hG.block rb (by omega) fun h => (hpv.out rb h.symm).2.1 rfl).trans (hBz.block rb hrl)
      have hxz : w'.heap[bx]? = w.heap[bx]? := (hG.block bx (by omega) fun h => (hpv.out bx h.symm).2.2 rfl).trans (hBz.block bx hbl)
      refine wpOp_step rfl fun Kz hKz => ?_
      refine step_app rfl (.tmp 127) (.tmp 129) 57 57 rfl _ _ _ _ rfl rfl hrun ?_
      go_simp
      exact hKz _ _ ⟨_, _, _, _, _, _, _, _, _, _, rfl, fun f => (by rw [show add L 7 7 = true from add_iff.2 (.inr rfl)] at f; cases f), fun _ f => (by rw [show add L 7 7 = true from add_iff.2 (.inr rfl)] at f; cases f), fun _ _ => ⟨hKz2, hrz, hxz, hO2, fun g hg => by rcases hO3 g hg with h | h; exact ⟨(hpv.out g h).1, (hpv.out g h).2.1⟩; exact ⟨hf g (by omega), by omega⟩⟩, fun e => absurd (add_ne e (by decide)) (by rw [hf10]; decide), fun e => k0 (add_ne e (by decide)), fun e => k1 (add_ne e (by decide)), fun e => k2 (add_ne e (by decide)), fun e => k3 (add_ne e (by decide)), fun e => k4 (add_ne e (by decide)), fun e => k5 (add_ne e (by decide)), fun e => k8 (add_ne e (by decide)), fun e => k9 (add_ne e (by decide))⟩
    · -- 8
      have e0 := k0 (hdep 0 (by decide +kernel))
      subst e0
      refine wpOp_step rfl fun Kz hKz => ?_
      go_simp
      exact hKz _ _ ⟨_, _, _, _, _, _, _, _, _, _, rfl, fun f => hB (add_nf f), fun e f => h6 (add_ne e (by decide)) (add_nf f), fun e f => h7 (add_ne e (by decide)) (add_nf f), fun e => h10 (add_ne e (by decide)), fun e => k0 (add_ne e (by decide)), fun e => k1 (add_ne e (by decide)), fun e => k2 (add_ne e (by decide)), fun e => k3 (add_ne e (by decide)), fun e => k4 (add_ne e (by decide)), fun e => k5 (add_ne e (by decide)), fun _ => rfl, fun e => k9 (add_ne e (by decide))⟩
    · -- 9
      have e8 := k8 (hdep 8 (by decide +kernel))
      subst e8
      refine wpOp_step rfl fun Kz hKz => ?_
      go_simp
      exact hKz _ _ ⟨_, _, _, _, _, _, _, _, _, _, rfl, fun f => hB (add_nf f), fun e f => h6 (add_ne e (by decide)) (add_nf f), fun e f => h7 (add_ne e (by decide)) (add_nf f), fun e => h10 (add_ne e (by decide)), fun e => k0 (add_ne e (by decide)), fun e => k1 (add_ne e (by decide)), fun e => k2 (add_ne e (by decide)), fun e => k3 (add_ne e (by decide)), fun e => k4 (add_ne e (by decide)), fun e => k5 (add_ne e (by decide)), fun e => k8 (add_ne e (by decide)), fun _ => rfl⟩
    · -- 10
      obtain ⟨q1, q2, q3, q4, q5⟩ := h7 (hdep 7 (by decide +kernel)) hni
      have e9 := k9 (hdep 9 (by decide +kernel))
      subst e9
      have hoz := q2.trans hobj.out
      have z := obj_cell hoz (i := 2) rfl
      have hfz := obj_free hoz 2
      obtain ⟨p4, cap4, e34, -, -, -⟩ := orow_shape q4
      subst e34
      refine wpOp_step rfl fun Kz hKz => ?_
      go_simp
      exact hKz _ _ ⟨_, _, _, _, _, _, _, _, _, _, rfl, fun f => absurd (hdep 7 (by decide +kernel)) (by rw [add_nf f]; decide), fun _ f => absurd (hdep 7 (by decide +kernel)) (by rw [add_nf f]; decide), fun _ f => (by rw [show add L 10 10 = true from add_iff.2 (.inr rfl)] at f; cases f), fun _ => ⟨wz, _, ⟨q1, q2, q3, q4, q5⟩, rfl⟩, fun e => k0 (add_ne e (by decide)), fun e => k1 (add_ne e (by decide)), fun e => k2 (add_ne e (by decide)), fun e => k3 (add_ne e (by decide)), fun e => k4 (add_ne e (by decide)), fun e => k5 (add_ne e (by decide)), fun e => k8 (add_ne e (by decide)), fun e => k9 (add_ne e (by decide))⟩
  · intro L az wz hI hL
    obtain ⟨v123, v124, v125, v126, v127, v128, v129, v130, v131, v132, rfl, hB, h6, h7, h10, k0, k1, k2, k3, k4, k5, k8, k9⟩ := hI
    obtain ⟨w7, u, ⟨q1, q2, q3, q4, q5⟩, rfl⟩ := h10 (hL 10 (by decide))
    refine hK.out _ _ _ _ _ _ _ _ _ _ _ ⟨u, obj_set (q2.trans hobj.out) 2 _, ?_, hrbP, fun g hg => (q5 g hg).1⟩ (q1.setCell (.inl hrbP) _) ((obj_other _ (fun h => hbxr h)).trans q3)
    rw [cellsR_app, List.length_append, List.length_singleton, ← hn.out]
    exact orow_kept q4 fun g hg => obj_other _ (q5 g hg).2
end Go.Proofs.YtflbggehgjllcaaDoor
namespace Go.Proofs.YtflbggehgjllcaaDoor
open Go.RowKit
set_option linter.unusedVariables false
/-- the book of so many entries -/
def bkR (mem cur : Int) (l : List En) : Bk := ⟨mem, cur, l, (nths l).length⟩
set_option maxHeartbeats 8000000 in
set_option maxRecDepth 100000 in
theorem rread_main (s : ByteArray) (mem cur : Int) (w : World) (hsz : s.size ≤ 100000) (hn : newR mem cur = true) (h2 : 2 ≤ (bl s).length) (h200 : ¬ 200 < vls ((bl s).take 2)) (hgood : (bl s).length = 2 + vls ((bl s).take 2) * 28) :
    Calls Tryd.prog 17 #[.string s, .int .i64 mem, .int .i64 cur] w (RdR w (readB (bl s) mem cur)) := by
  have hE : readB (bl s) mem cur = (goR (vls ((bl s).take 2)) ((bl s).drop 2) ⟨mem, cur, [], 0⟩).bind endR := by unfold readB; rw [if_neg (by rw [hn]; simp; omega), if_neg (by omega)]
  rw [hE]
  clear hE
  obtain ⟨T, hT⟩ : ∃ T, goR (vls ((bl s).take 2)) ((bl s).drop 2) ⟨mem, cur, [], 0⟩ = T := ⟨_, rfl⟩
  rw [hT]
  have hbl := bl_length s
  have cn : ∀ W, Calls Tryd.prog 42 #[.string s, .int .i64 0, .int .i64 2] W fun e w' => e = .returned (.int .i64 (toI (numL (bl s) 0 2))) ∧ W = w' := fun W => number_any s 0 2 W (by omega) (by omega) (by omega)
  have hnv : vls ((bl s).take 2) = numL (bl s) 0 2 := by unfold numL; rw [List.drop_zero]
  rw [hnv] at hT h200 hgood
  rw [toI_small (by omega)] at cn
  generalize numL (bl s) 0 2 = m at *
  have m0 : (0 : Int) ≤ (m : Int) := by omega
  have m1 : ¬ (200 : Int) < (m : Int) := by omega
  have w1 : IntKind.i64.wrap (28 * (m : Int)) = 28 * (m : Int) := by rw [IntKind.wrap_i64] <;> omega
  have w2 : IntKind.i64.wrap (2 + 28 * (m : Int)) = 2 + 28 * (m : Int) := by rw [IntKind.wrap_i64] <;> omega
  have hne : ((s.size : Int) != 2 + 28 * (m : Int)) = false := by simp; omega
  have hz : ¬ (s.size : Int) < 2 := by omega
  have hszm : s.size = 2 + 28 * m := by omega
  have hm200 : m ≤ 200 := by omega
  have cR := rnew_yes (fun j => w.heap.size ≤ j) mem cur w hn (fun i hi => hi)
  clear hnv hgood h200 h2 hbl
  replace hT := Lib.hid hT
  replace cn := Lib.hid cn
  replace cR := Lib.hid cR
  replace hn := Lib.hid hn
  replace hszm := Lib.hid hszm
  go_enter Tryd.func17, Tryd.ntmps17
  go_wp2_with (first | (go_at_call 9; (with_reducible refine cR.out.mono ?_); rintro e W1 ⟨rb, rfl, hP, hb, hrb⟩; replace hP := Lib.hid hP; replace hb := Lib.hid hb) | (go_at_call 42; (with_reducible refine (cn.out _).mono ?_); rintro e W2 ⟨rfl, rfl⟩))
  go_loopw [10] (fun a wr => ∃ (j : Nat) (l : List En), j ≤ m ∧ Hid (l.length = j) ∧ a = .int .i64 ((2 + 28 * j : Nat) : Int) ∧ Hid (RB (fun j => w.heap.size ≤ j) wr rb (bkR mem cur l)) ∧ Hid (goR (m - j) ((bl s).drop (2 + 28 * j)) ⟨mem, cur, l, 0⟩ = T) ∧ Hid (Below w.heap.size w wr)) (fun a _ => 2 + 28 * m + 28 - (intOf a).toNat)
  case atStart => exact ⟨0, [], by omega, Lib.hid rfl, rfl, hP, Lib.hid (by rw [Nat.sub_zero, Nat.mul_zero, Nat.add_zero]; exact hT.out), hb⟩
  case round =>
    obtain ⟨j, l, hj, hll, rfl, hRB, hgo, hBl⟩ := hrel
    by_cases hjm : j < m
    · obtain ⟨at0, hat⟩ : ∃ a, a = 2 + 28 * j := ⟨_, rfl⟩
      rw [← hat] at hgo ⊢
      have hsize := hszm.out
      have a0 : (0 : Int) ≤ (at0 : Int) := by omega
      have a1 : (at0 : Int) < (s.size : Int) := by omega
      have hle : at0 + 28 ≤ s.size := by omega
      have hlb : (bl s).length = s.size := bl_length s
      obtain ⟨x, hx⟩ : ∃ x, x = eOf ((bl s).drop at0) := ⟨_, rfl⟩
      have cnum : ∀ (k n q : Nat), off k = n → sz k = q → k < 10 → ∀ W, Calls Tryd.prog 42 #[.string s, .int .i64 ((at0 + n : Nat) : Int), .int .i64 (q : Int)] W fun e w' => e = .returned (.int .i64 (x.num k)) ∧ W = w' := fun k n q h1 h2 h3 W => by
        have hof := off_le k h3
        have c := number_any s (at0 + n) q W (by have := sz_le k h3; omega) (by omega) (by omega)
        rw [hx, eOf_num _ k h3, fld_num, h1, h2]; exact c
      have c25 := cnum 8 25 1 rfl rfl (by omega)
      have c24 := cnum 7 24 1 rfl rfl (by omega)
      have c26 := cnum 9 26 2 rfl rfl (by omega)
      have c00 := cnum 0 0 4 rfl rfl (by omega)
      have c08 := cnum 5 8 8 rfl rfl (by omega)
      have c16 := cnum 6 16 8 rfl rfl (by omega)
      have cby : ∀ (k n : Nat), off k = n → sz k = 1 → k < 10 → ∀ h : at0 + n < s.size, (s[at0 + n].toNat : Int) = x.num k := fun k n h1 h2 h3 h => by
        have e0 : numL (bl s) (at0 + n) 0 = 0 := by unfold numL; simp [vls]
        have e1 : numL (bl s) (at0 + n) 1 = s[at0 + n].toNat := by rw [numL_succ (bl s) (at0 + n) 0 (by omega), e0, Nat.zero_mul, Nat.zero_add]; rfl
        have e2 := s[at0 + n].toNat_lt
        rw [hx, eOf_num _ k h3, fld_num, h1, h2, e1, toI_small (by omega)]
      have b4 := cby 1 4 rfl rfl (by omega)
      have b5 := cby 2 5 rfl rfl (by omega)
      have b6 := cby 3 6 rfl rfl (by omega)
      have b7 := cby 4 7 rfl rfl (by omega)
      clear cnum cby
      have hask0 : 0 ≤ x.ask := by rw [hx]; exact fld_nat _ (k := 8) (by omega) (by decide)
      have hnth0 : 0 ≤ x.nth := by rw [hx]; exact fld_nat _ (k := 9) (by omega) (by decide)
      have g4 : at0 + 4 < s.size := by omega
      have g5 : at0 + 5 < s.size := by omega
      have g6 : at0 + 6 < s.size := by omega
      have g7 : at0 + 7 < s.size := by omega
      have z25 : IntKind.i64.wrap ((at0 : Int) + 25) = ((at0 + 25 : Nat) : Int) := by rw [IntKind.wrap_i64] <;> omega
      have z24 : IntKind.i64.wrap ((at0 : Int) + 24) = ((at0 + 24 : Nat) : Int) := by rw [IntKind.wrap_i64] <;> omega
      have z26 : IntKind.i64.wrap ((at0 : Int) + 26) = ((at0 + 26 : Nat) : Int) := by rw [IntKind.wrap_i64] <;> omega
      have z16 : IntKind.i64.wrap ((at0 : Int) + 16) = ((at0 + 16 : Nat) : Int) := by rw [IntKind.wrap_i64] <;> omega
      have z8 : IntKind.i64.wrap ((at0 : Int) + 8) = ((at0 + 8 : Nat) : Int) := by rw [IntKind.wrap_i64] <;> omega
      have z4 : IntKind.i64.wrap ((at0 : Int) + 4) = ((at0 + 4 : Nat) : Int) := by rw [IntKind.wrap_i64] <;> omega
      have z5 : IntKind.i64.wrap ((at0 : Int) + 5) = ((at0 + 5 : Nat) : Int) := by rw [IntKind.wrap_i64] <;> omega
      have z6 : IntKind.i64.wrap ((at0 : Int) + 6) = ((at0 + 6 : Nat) : Int) := by rw [IntKind.wrap_i64] <;> omega
      have z7 : IntKind.i64.wrap ((at0 : Int) + 7) = ((at0 + 7 : Nat) : Int) := by rw [IntKind.wrap_i64] <;> omega
      rw [show at0 + 0 = at0 from rfl] at c00
      generalize hy25 : at0 + 25 = y25 at *
      generalize hy24 : at0 + 24 = y24 at *
      generalize hy26 : at0 + 26 = y26 at *
      generalize hy16 : at0 + 16 = y16 at *
      generalize hy8 : at0 + 8 = y8 at *
      generalize hy4 : at0 + 4 = y4 at *
      generalize hy5 : at0 + 5 = y5 at *
      generalize hy6 : at0 + 6 = y6 at *
      generalize hy7 : at0 + 7 = y7 at *
      replace b4 := b4 g4
      replace b5 := b5 g5
      replace b6 := b6 g6
      replace b7 := b7 g7
      have g4a : (y4 : Int) < (s.size : Int) := by omega
      have g5a : (y5 : Int) < (s.size : Int) := by omega
      have g6a : (y6 : Int) < (s.size : Int) := by omega
      have g7a : (y7 : Int) < (s.size : Int) := by omega
      have g4b : (0 : Int) ≤ (y4 : Int) := by omega
      have g5b : (0 : Int) ≤ (y5 : Int) := by omega
      have g6b : (0 : Int) ≤ (y6 : Int) := by omega
      have g7b : (0 : Int) ≤ (y7 : Int) := by omega
      clear hy25 hy24 hy26 hy16 hy8 hy4 hy5 hy6 hy7
      replace hat := Lib.hid hat
      replace hx := Lib.hid hx
      replace c25 : Hid (∀ W, Calls Tryd.prog 42 #[.string s, .int .i64 (y25 : Int), .int .i64 1] W fun e w' => e = .returned (.int .i64 x.ask) ∧ W = w') := Lib.hid c25
      replace c24 : Hid (∀ W, Calls Tryd.prog 42 #[.string s, .int .i64 (y24 : Int), .int .i64 1] W fun e w' => e = .returned (.int .i64 x.st) ∧ W = w') := Lib.hid c24
      replace c26 : Hid (∀ W, Calls Tryd.prog 42 #[.string s, .int .i64 (y26 : Int), .int .i64 2] W fun e w' => e = .returned (.int .i64 x.nth) ∧ W = w') := Lib.hid c26
      replace c00 : Hid (∀ W, Calls Tryd.prog 42 #[.string s, .int .i64 (at0 : Int), .int .i64 4] W fun e w' => e = .returned (.int .i64 x.d.id) ∧ W = w') := Lib.hid c00
      replace c08 : Hid (∀ W, Calls Tryd.prog 42 #[.string s, .int .i64 (y8 : Int), .int .i64 8] W fun e w' => e = .returned (.int .i64 x.d.s) ∧ W = w') := Lib.hid c08
      replace c16 : Hid (∀ W, Calls Tryd.prog 42 #[.string s, .int .i64 (y16 : Int), .int .i64 8] W fun e w' => e = .returned (.int .i64 x.d.t) ∧ W = w') := Lib.hid c16
      replace hle := Lib.hid hle
      clear hsize
      go_upto_region 9 with (go_at_call 42; (first | (with_reducible refine (c25.out _).mono ?_) | (with_reducible refine (c24.out _).mono ?_) | (with_reducible refine (c26.out _).mono ?_)); rintro e W2 ⟨rfl, rfl⟩)
      obtain ⟨pA, hpA⟩ : ∃ p, p = (x.ask % 2 == 1) := ⟨_, rfl⟩
      obtain ⟨pB, hpB⟩ : ∃ p, p = (RowKit.wrap64 (x.ask.tdiv 2) == 1) := ⟨_, rfl⟩
      rw [← hpA, ← hpB]
      replace hpA := Lib.hid hpA
      replace hpB := Lib.hid hpB
      have hbo := heap_alloc_new wr (.cells #[.int .i64 0, .int .i64 0, .int .i64 0, .int .i64 0, .int .i64 0, .int .i64 0, .int .i64 0, .int .i64 x.st, .bool pA, .bool pB, .int .i64 x.nth] 61)
      have hWb : Below wr.heap.size wr (wr.alloc (.cells #[.int .i64 0, .int .i64 0, .int .i64 0, .int .i64 0, .int .i64 0, .int .i64 0, .int .i64 0, .int .i64 x.st, .bool pA, .bool pB, .int .i64 x.nth] 61)) := (Below.refl _ _).alloc (Nat.le_refl _) _
      generalize wr.alloc _ = W0 at *
      refine read9_any s x.d hbo g4 g5 g6 g7 hsz z4 z5 z6 z7 z8 z16 c00.out c08.out c16.out b4 b5 b6 b7 _ _ _ _ _ _ _ _ _ _ _ _ _ _ _ _ _ _ _ _ _ _ _ _ _ _ _ _ _ _ _ _ _ _ _ _ _ _ _ _ _ _ _ _ _ _ _ _ _ _ _ _ _ _ _ _ _ _ _ _ _ _ _ _ _ _ _ _ _ _ _ _ _ _ _ _ _ _ _ _ _ _ _ _ _ _ _ _ _ _ _ _ _ _ _ _ _ _ _ _ _ _ _ _ _ _ _ _ _ _ _ _ _ _ _ _ _ _ _ _ _ _ _ _ _ _ _ _ _ _ _ _ _ _ _ _ _ _ _ _ _ _ _ _ _ _ _ _ _ _ _ _ _ _ _ _ _ _ _ _ _ _ _ _ _ _ _ _ _ _ _ _ _ ?_
      intro v68 v69 v70 v71 v72 v73 v74 v75 v76 v77 v78 v79 v80 v81 v82 v83 v84 v85 v86 v87 v88 v89 v90 v91 v92 v93 v94 v95 v96 v97 v98 v99 v100 W9 hbo9 hK9
      have hb9 : Below wr.heap.size wr W9 := hWb.trans (hK9.below hWb.size (fun j hj e => by omega))
      have hRB9 := below_rb hRB.out hb9
      have hBl9 := hBl.out.trans (hb9.mono hBl.out.size)
      have hbx9 : wr.heap.size < W9.heap.size := obj_lt hbo9
      clear hbo hWb hK9
      replace hb9 := Lib.hid hb9
      have hll2 : l.length ≤ 200 := by have := hll.out; omega
      have hgs : goR (m - j) ((bl s).drop at0) ⟨mem, cur, l, 0⟩ = if Bk.fits ⟨mem, cur, l, 0⟩ x = true then goR (m - (j + 1)) ((bl s).drop (2 + 28 * (j + 1))) ⟨mem, cur, l ++ [x], 0⟩ else none := by
        have e1 : m - j = (m - (j + 1)) + 1 := by omega
        rw [e1, goR, List.drop_drop, ← hx.out, show at0 + 28 = 2 + 28 * (j + 1) by have := hat.out; omega]
      have hfit : Bk.fits ⟨mem, cur, l, 0⟩ x = (mayB x.d mem cur && (atL l x.d.id).isNone && x.may) := rfl
      rw [hgo.out] at hgs
      have cM : ∀ W, RB (fun j => w.heap.size ≤ j) W rb (bkR mem cur l) → Calls Tryd.prog 43 #[.pointer (some ⟨rb, 0, none⟩), x.d.val] W fun e w' => e = .returned (.bool (mayB x.d mem cur)) ∧ Below W.heap.size W w' := fun W hW => may_any x.d mem cur rb W (rb_head hW).1 (rb_head hW).2
      have cAt : ∀ W, RB (fun j => w.heap.size ≤ j) W rb (bkR mem cur l) → Calls Tryd.prog 28 #[.pointer (some ⟨rb, 0, none⟩), .int .i64 x.d.id] W fun e w' => e = .returned (.int .i64 (atI (atL l x.d.id))) ∧ W = w' := fun W hW => at_any hW x.d.id (by show l.length ≤ 1000; omega)
      have cC := fun W => could_any x.d x.st pA pB x.nth W
      have hcells : ∀ W : World, W.heap[wr.heap.size]? = W9.heap[wr.heap.size]? → W.cell? ⟨wr.heap.size, 0, none⟩ = some (.int .i64 x.d.id) ∧ W.cell? ⟨wr.heap.size, 1, none⟩ = some (.int .i64 x.d.a) ∧ W.cell? ⟨wr.heap.size, 2, none⟩ = some (.int .i64 x.d.b) ∧ W.cell? ⟨wr.heap.size, 3, none⟩ = some (.int .i64 x.d.sc) ∧ W.cell? ⟨wr.heap.size, 4, none⟩ = some (.int .i64 x.d.bc) ∧ W.cell? ⟨wr.heap.size, 5, none⟩ = some (.int .i64 x.d.s) ∧ W.cell? ⟨wr.heap.size, 6, none⟩ = some (.int .i64 x.d.t) ∧ W.cell? ⟨wr.heap.size, 7, none⟩ = some (.int .i64 x.st) ∧ W.cell? ⟨wr.heap.size, 8, none⟩ = some (.bool pA) ∧ W.cell? ⟨wr.heap.size, 9, none⟩ = some (.bool pB) ∧ W.cell? ⟨wr.heap.size, 10, none⟩ = some (.int .i64 x.nth) := fun W hW => by
        have h := hW.trans hbo9
        exact ⟨obj_cell h rfl, obj_cell h rfl, obj_cell h rfl, obj_cell h rfl, obj_cell h rfl, obj_cell h rfl, obj_cell h rfl, obj_cell h rfl, obj_cell h rfl, obj_cell h rfl, obj_cell h rfl⟩
      obtain ⟨k0, k1, k2, k3, k4, k5, k6, k7, k8, k9, k10⟩ := hcells W9 rfl
      unfold Dl.val at cM
      clear z25 z24 z26 z16 z8 z4 z5 z6 z7 g4a g5a g6a g7a g4b g5b g6b g7b b4 b5 b6 b7
      replace hRB9 := Lib.hid hRB9
      replace hBl9 := Lib.hid hBl9
      replace hbo9 := Lib.hid hbo9
      replace hcells := Lib.hid hcells
      replace cM := Lib.hid cM
      replace cAt := Lib.hid cAt
      replace cC := Lib.hid cC
      replace hgs := Lib.hid hgs
      by_cases hk3 : 3 < x.ask
      · have hT0 : Hid (T = none) := Lib.hid (by rw [hgs.out, hfit, may_big hk3]; simp)
        clear hfit hgs
        go_wp2_with fail
        go_ret2
        exact ⟨hBl9.out, fun _ => rfl, fun b e => by rw [hT0.out] at e; cases e⟩
      have hpA2 : Hid (pA = x.byA) := Lib.hid (by
        have h : x.ask = 0 ∨ x.ask = 1 ∨ x.ask = 2 ∨ x.ask = 3 := by omega
        rw [hpA.out]; unfold En.byA
        rcases h with h | h | h | h <;> rw [h] <;> rfl)
      have hpB2 : Hid (pB = x.byB) := Lib.hid (by
        have h : x.ask = 0 ∨ x.ask = 1 ∨ x.ask = 2 ∨ x.ask = 3 := by omega
        rw [hpB.out]; unfold En.byB
        rcases h with h | h | h | h <;> rw [h] <;> first | rfl | decide | simp [RowKit.wrap64])
      clear hpA hpB
      rcases hma : mayB x.d mem cur with _ | _
      · have hT0 : Hid (T = none) := Lib.hid (by rw [hgs.out, hfit, hma]; simp)
        rw [hma] at cM
        clear hfit hgs hma
        go_wp2_with (go_at_call 43; (with_reducible refine (cM.out _ hRB9.out).mono ?_); rintro e V1 ⟨rfl, hb1⟩; have hR1 := Lib.hid (below_rb hRB9.out hb1); obtain ⟨n0, n1, n2, n3, n4, n5, n6, n7, n8, n9, n10⟩ := hcells.out V1 (hb1.block _ hbx9); replace hb1 := Lib.hid hb1)
        go_ret2
        exact ⟨hBl9.out.trans (hb1.out.mono hBl9.out.size), fun _ => rfl, fun b e => by rw [hT0.out] at e; cases e⟩
      rw [hma] at cM
      rcases hat2 : atL l x.d.id with _ | i
      rotate_left
      · have hT0 : Hid (T = none) := Lib.hid (by rw [hgs.out, hfit, hat2]; simp)
        rw [hat2] at cAt
        dsimp only [atI] at cAt
        have hi0 : (0 : Int) ≤ (i : Int) := by omega
        clear hfit hgs hma hat2
        go_wp2_with (first | (go_at_call 43; (with_reducible refine (cM.out _ hRB9.out).mono ?_); rintro e V1 ⟨rfl, hb1⟩; have hR1 := Lib.hid (below_rb hRB9.out hb1); obtain ⟨n0, n1, n2, n3, n4, n5, n6, n7, n8, n9, n10⟩ := hcells.out V1 (hb1.block _ hbx9); replace hb1 := Lib.hid hb1) | (go_at_call 28; (with_reducible refine (cAt.out _ hR1.out).mono ?_); rintro e V2 ⟨rfl, rfl⟩))
        go_ret2
        exact ⟨hBl9.out.trans (hb1.out.mono hBl9.out.size), fun _ => rfl, fun b e => by rw [hT0.out] at e; cases e⟩
      rw [hat2] at cAt
      dsimp only [atI] at cAt
      have hcm : couldB x.st pA pB x.nth = x.may := by rw [hpA2.out, hpB2.out]; exact could_may hask0 (by omega) hnth0
      rw [hcm] at cC
      rcases hmy : x.may with _ | _
      · have hT0 : Hid (T = none) := Lib.hid (by rw [hgs.out, hfit, hmy]; simp)
        rw [hmy] at cC
        clear hfit hgs hma hat2 hcm hmy
        go_wp2_with (first | (go_at_call 43; (with_reducible refine (cM.out _ hRB9.out).mono ?_); rintro e V1 ⟨rfl, hb1⟩; have hR1 := Lib.hid (below_rb hRB9.out hb1); obtain ⟨n0, n1, n2, n3, n4, n5, n6, n7, n8, n9, n10⟩ := hcells.out V1 (hb1.block _ hbx9); replace hb1 := Lib.hid hb1) | (go_at_call 28; (with_reducible refine (cAt.out _ hR1.out).mono ?_); rintro e V2 ⟨rfl, rfl⟩) | (go_at_call 44; (with_reducible refine (cC.out _).mono ?_); rintro e V3 ⟨rfl, hb3⟩; replace hb3 := Lib.hid hb3))
        go_ret2
        exact ⟨(hBl9.out.trans (hb1.out.mono hBl9.out.size)).trans (hb3.out.mono (Nat.le_trans hBl9.out.size hb1.out.size)), fun _ => rfl, fun b e => by rw [hT0.out] at e; cases e⟩
      rw [hmy] at cC
      have hT1 : Hid (goR (m - (j + 1)) ((bl s).drop (2 + 28 * (j + 1))) ⟨mem, cur, l ++ [x], 0⟩ = T) := Lib.hid (by rw [hgs.out, hfit, hma, hat2, hmy]; rfl)
      clear hfit hgs hma hat2 hcm hmy
      go_upto_region 12 with (first | (go_at_call 43; (with_reducible refine (cM.out _ hRB9.out).mono ?_); rintro e V1 ⟨rfl, hb1⟩; have hR1 := Lib.hid (below_rb hRB9.out hb1); obtain ⟨n0, n1, n2, n3, n4, n5, n6, n7, n8, n9, n10⟩ := hcells.out V1 (hb1.block _ hbx9); replace hb1 := Lib.hid hb1) | (go_at_call 28; (with_reducible refine (cAt.out _ hR1.out).mono ?_); rintro e V2 ⟨rfl, rfl⟩) | (go_at_call 44; (with_reducible refine (cC.out _).mono ?_); rintro e V3 ⟨rfl, hb3⟩; replace hb3 := Lib.hid hb3))
      obtain rfl := hpA2.out
      obtain rfl := hpB2.out
      have hb13 : Below wr.heap.size wr V3 := (hb9.out.trans (hb1.out.mono hb9.out.size)).trans (hb3.out.mono (Nat.le_trans hb9.out.size hb1.out.size))
      obtain ⟨v0, hv0⟩ := hRB.out
      obtain ⟨p, cap, rfl, -, -, -⟩ := orow_shape hv0.row
      have hv3 := hv0.below hb13
      have hbo3 : V3.heap[wr.heap.size]? = some (.cells #[.int .i64 x.d.id, .int .i64 x.d.a, .int .i64 x.d.b, .int .i64 x.d.sc, .int .i64 x.d.bc, .int .i64 x.d.s, .int .i64 x.d.t, .int .i64 x.st, .bool x.byA, .bool x.byB, .int .i64 x.nth] 61 (0, 0)) :=
        (hb3.out.block _ (Nat.lt_of_lt_of_le hbx9 hb1.out.size)).trans ((hb1.out.block _ hbx9).trans hbo9.out)
      have hnx : (nths (l ++ [x])).length = (nths l).length + (if 0 < x.nth then 1 else 0) := by
        unfold nths
        rw [List.filter_append, List.map_append, List.length_append]
        by_cases h : 0 < x.nth <;> simp [h]
      have hNl : (nths l).length ≤ 200 := by have := nths_le l l.length; rw [List.take_length] at this; omega
      have hws : w.heap.size ≤ V3.heap.size := Nat.le_trans hBl.out.size hb13.size
      refine read12_any (n := l.length) (x := x) hv3 rfl (by omega) hbo3 (fun e => by have := hv0.lt; omega) (fun g hg e => by have := (World.ownsRow.lt hv0.row g hg).2; omega) (fun i hi => by omega) _ _ _ _ _ _ _ _ _ _ _ _ _ _ _ _ _ _ _ _ _ _ _ _ _ _ _ _ _ _ _ _ _ _ _ _ _ _ _ _ _ _ _ _ _ _ _ _ _ _ _ _ _ _ _ _ _ _ _ _ _ _ _ _ _ _ _ _ _ _ _ _ _ _ _ _ _ _ _ _ _ _ _ _ _ _ _ _ _ _ _ _ _ _ _ _ _ _ _ _ _ _ _ _ _ _ _ _ _ _ _ _ _ _ _ _ _ _ _ _ _ _ _ _ _ _ _ _ _ _ _ _ _ _ _ _ _ _ _ _ _ _ _ _ _ _ _ _ _ _ _ _ _ _ _ _ _ _ _ _ _ _ _ _ _ _ _ _ _ _ _ _ _ _ ?_
      intro r123 r124 r125 r126 r127 r128 r129 r130 r131 r132 wz hRz hKz hxz
      have k10z := obj_cell (hxz.trans hbo3) (i := 10) rfl
      have hBz : Below w.heap.size w wz := (hBl.out.trans (hb13.mono hBl.out.size)).trans (hKz.below hws fun i hi hp => by omega)
      obtain ⟨vz, hvz⟩ := hRz
      have m3 : wz.cell? ⟨rb, 3, none⟩ = some (.int .i64 ((nths l).length : Nat)) := obj_cell hvz.obj rfl
      have mf := obj_free hvz.obj 3
      have hrbw : w.heap.size ≤ rb := hvz.pg
      have hmore := hvz.more ((nths l).length + 1)
      have hmz : (0 : Int) ≤ ((nths l).length : Int) := by omega
      have hmz2 : ((nths l).length : Int) ≤ 200 := by omega
      have z28 : IntKind.i64.wrap ((at0 : Int) + 28) = ((2 + 28 * (j + 1) : Nat) : Int) := by rw [IntKind.wrap_i64]; have := hat.out; omega
      have hBs : Below w.heap.size w (wz.setCell ⟨rb, 3, none⟩ (.int .i64 (((nths l).length + 1 : Nat) : Int))) := Below.setCell hBz hrbw _
      have hcast : (((nths l).length + 1 : Nat) : Int) = ((nths l).length : Int) + 1 := by omega
      rw [hcast] at hBs hmore
      have hlx : Hid ((l ++ [x]).length = j + 1) := Lib.hid (by rw [List.length_append, hll.out]; rfl)
      have hat2 := hat.out
      have hme : at0 < 2 + 28 * (j + 1) := by omega
      replace hvz := Lib.hid hvz
      replace hmore := Lib.hid hmore
      replace hBz := Lib.hid hBz
      replace hBs := Lib.hid hBs
      replace hnx := Lib.hid hnx
      clear k0 k1 k2 k3 k4 k5 k6 k7 k8 k9 k10 n0 n1 n2 n3 n4 n5 n6 n7 n8 n9 n10 hv3 hv0 hbo3 hat2 hcast
      by_cases h0 : 0 < x.nth
      · have hq : Hid ((nths (l ++ [x])).length = (nths l).length + 1) := Lib.hid (by rw [hnx.out, if_pos h0])
        generalize (nths l).length = N at *
        go_wp2_with fail
        go_roundw
        case rel => exact ⟨j + 1, l ++ [x], by omega, hlx, rfl, Lib.hid (by unfold bkR; rw [hq.out]; exact ⟨_, hmore.out⟩), hT1, hBs⟩
        case measure => simp [intOf]; omega
      · have hq : Hid ((nths (l ++ [x])).length = (nths l).length) := Lib.hid (by rw [hnx.out, if_neg h0]; rfl)
        go_wp2_with fail
        go_roundw
        case rel => exact ⟨j + 1, l ++ [x], by omega, hlx, rfl, Lib.hid (by unfold bkR; rw [hq.out]; exact ⟨_, hvz.out⟩), hT1, hBz⟩
        case measure => simp [intOf]; omega
    · obtain rfl : j = m := by omega
      have a1 : ¬ (((2 + 28 * j : Nat)) : Int) < (s.size : Int) := by have := hszm.out; omega
      have hTl : Hid (T = some ⟨mem, cur, l, 0⟩) := Lib.hid (by rw [← hgo.out, Nat.sub_self]; rfl)
      obtain ⟨v, hv⟩ := hRB.out
      obtain ⟨p, cap, rfl, -, -, -⟩ := orow_shape hv.row
      have hlen : l.length ≤ 200 := by have := hll.out; omega
      have c2 : wr.cell? ⟨rb, 2, none⟩ = some (.slice p l.length cap) := obj_cell hv.obj rfl
      have c3 : wr.cell? ⟨rb, 3, none⟩ = some (.int .i64 ((nths l).length : Nat)) := obj_cell hv.obj rfl
      have hN : (nths l).length ≤ 200 := by have := nths_le l l.length; rw [List.take_length] at this; omega
      have hent : ∀ k (hk : k < l.length), ∃ g, p = some ⟨g, 0, none⟩ ∧ wr.cell? ⟨g, k * 11 + 10, none⟩ = some (.int .i64 (l[k]).nth) := fun k hk => by
        obtain ⟨g, hg⟩ := hv.has (i := k) hk
        obtain ⟨-, -, -, -, -, -, -, -, -, -, e10⟩ := hv.entry (i := k) hk hg
        obtain ⟨c1, cu, e1, _⟩ := hv.row_obj hg
        injection e1 with e1 _ _
        exact ⟨g, e1, e10⟩
      have hiu := isUp_iff (l := l)
      obtain ⟨N, hNN⟩ : ∃ N, N = (nths l).length := ⟨_, rfl⟩
      obtain ⟨n, hnn⟩ : ∃ n, n = l.length := ⟨_, rfl⟩
      rw [← hNN] at c3 hN hiu
      rw [← hnn] at c2 hlen
      have hend : endR ⟨mem, cur, l, 0⟩ = if isUp (srt (nths l)) = true then some (bkR mem cur l) else none := by unfold endR bkR; rfl
      replace hNN := Lib.hid hNN
      replace hnn := Lib.hid hnn
      replace hent := Lib.hid hent
      replace hiu := Lib.hid hiu
      replace hend := Lib.hid hend
      clear hv
      go_wp2_with fail
      go_loopw [13] (fun q wz => ∃ i : Nat, 1 ≤ i ∧ i ≤ N + 1 ∧ q = .int .i64 (i : Int) ∧ wz = wr ∧ Hid (∀ t : Nat, 1 ≤ t → t < i → ∃ e ∈ l, e.nth = (t : Int))) (fun q _ => N + 2 - (intOf q).toNat)
      case atStart => exact ⟨1, by omega, by omega, rfl, rfl, Lib.hid fun t h1 h2 => by omega⟩
      case round =>
        obtain ⟨i, hi1, hiN, rfl, rfl, hall⟩ := hrel
        by_cases hin : i ≤ N
        · have hiz : (i : Int) ≤ (N : Int) := by omega
          have hi0 : (0 : Int) ≤ (i : Int) := by omega
          go_wp2_with fail
          go_loopw [14, 15] (fun f q wz => ∃ (k : Nat) (c : Bool), k ≤ n ∧ q = .int .i64 (k : Int) ∧ f = .bool c ∧ wz = wr ∧ Hid (c = true ↔ ∃ e ∈ l.take k, e.nth = (i : Int))) (fun _ q _ => n - (intOf q).toNat)
          case atStart => exact ⟨0, false, by omega, rfl, rfl, rfl, Lib.hid (by simp)⟩
          case round =>
            obtain ⟨k, c, hk, rfl, rfl, rfl, hc⟩ := hrel
            by_cases hkn : k < n
            · have hkz : (k : Int) < (n : Int) := by omega
              have hk0 : (0 : Int) ≤ (k : Int) := by omega
              have hkl : k < l.length := by have := hnn.out; omega
              obtain ⟨g, rfl, e10⟩ := hent.out k hkl
              have htk : (∃ e ∈ l.take (k + 1), e.nth = (i : Int)) ↔ (∃ e ∈ l.take k, e.nth = (i : Int)) ∨ (l[k]).nth = (i : Int) := by
                rw [List.take_succ_eq_append_getElem hkl]
                constructor
                · rintro ⟨e, he, hq⟩
                  rcases List.mem_append.1 he with he | he
                  · exact .inl ⟨e, he, hq⟩
                  · rw [List.mem_singleton] at he; subst he; exact .inr hq
                · rintro (⟨e, he, hq⟩ | hq)
                  · exact ⟨e, List.mem_append.2 (.inl he), hq⟩
                  · exact ⟨_, List.mem_append.2 (.inr (List.mem_singleton.2 rfl)), hq⟩
              generalize (l[k]).nth = y at *
              replace htk := Lib.hid htk
              cases c with
              | true =>
                go_wp2_with fail
                go_roundw
                case rel => exact ⟨k + 1, true, by omega, by go_num, rfl, (by first | rfl | trivial), Lib.hid (by rw [htk.out]; exact ⟨fun _ => .inl (hc.out.1 rfl), fun _ => rfl⟩)⟩
                case measure => simp [intOf]; omega
              | false =>
                go_wp2_with fail
                go_roundw
                case rel => exact ⟨k + 1, y == (i : Int), by omega, by go_num, rfl, (by first | rfl | trivial), Lib.hid (by rw [htk.out]; simp only [beq_iff_eq]; exact ⟨fun h => .inr h, fun h => h.resolve_left fun h2 => by have := hc.out.2 h2; cases this⟩)⟩
                case measure => simp [intOf]; omega
            · obtain rfl : k = n := by omega
              have hkz : ¬ (k : Int) < (k : Int) := by omega
              have hcl : Hid (c = true ↔ ∃ e ∈ l, e.nth = (i : Int)) := Lib.hid (by have := hc.out; rwa [List.take_of_length_le (by have := hnn.out; omega)] at this)
              cases c with
              | true =>
                go_wp2_with fail
                go_roundw
                case rel => exact ⟨i + 1, by omega, by omega, by go_num, (by first | rfl | trivial), Lib.hid fun t h1 h2 => by
                  by_cases e : t = i
                  · subst e; exact hcl.out.1 rfl
                  · exact hall.out t h1 (by omega)⟩
                case measure => simp [intOf]; omega
              | false =>
                have hT0 : Hid (T.bind endR = none) := Lib.hid (by
                  rw [hTl.out]
                  show endR _ = _
                  rw [hend.out, if_neg]
                  intro hu
                  have := hcl.out.2 (hiu.out.1 hu i hi1 hin)
                  cases this)
                go_wp2_with fail
                go_ret2
                exact ⟨hBl.out, fun _ => rfl, fun b e => by rw [hT0.out] at e; cases e⟩
        · have hiz : ¬ (i : Int) ≤ (N : Int) := by omega
          have hT1 : Hid (T.bind endR = some (bkR mem cur l)) := Lib.hid (by
            rw [hTl.out]
            show endR _ = _
            rw [hend.out, if_pos]
            exact hiu.out.2 fun t h1 h2 => hall.out t h1 (by omega))
          go_wp2_with fail
          go_ret2
          exact ⟨hBl.out, fun h => (by rw [hT1.out] at h; cases h), fun b e => (by rw [hT1.out] at e; injection e with e; subst e; exact ⟨rb, rfl, hRB.out, hrb⟩)⟩
end Go.Proofs.YtflbggehgjllcaaDoor
namespace Go.Proofs.YtflbggehgjllcaaDoor
open Go.RowKit
set_option linter.unusedVariables false

theorem rread_any (s : ByteArray) (mem cur : Int) (w : World) (hsz : s.size ≤ 100000) : Calls Tryd.prog 17 #[.string s, .int .i64 mem, .int .i64 cur] w (RdR w (readB (bl s) mem cur)) := by
  by_cases h : newR mem cur = false ∨ (bl s).length < 2 ∨ (200 < vls ((bl s).take 2) ∨ (bl s).length ≠ 2 + vls ((bl s).take 2) * 28)
  · exact rread_early s mem cur w hsz h
  · rcases hn : newR mem cur with _ | _
    · exact absurd (.inl hn) h
    · exact rread_main s mem cur w hsz hn (by omega) (by omega) (by omega)
theorem text_of {s : ByteArray} {t : List UInt8} (h : t = bl s) : (⟨t.toArray⟩ : ByteArray) = s := by subst h; rfl
set_option maxHeartbeats 8000000 in
set_option maxRecDepth 100000 in
theorem reads_any (s : ByteArray) (mem cur : Int) (p : Option Addr) (len cap : Nat) (ops : List XOp) (w : World) (hs : s.size ≤ 140737488351232) (hO : OpsX w p len ops) (hZ : SZ w) : Calls Tryd.prog 4 #[.string s, .int .i64 mem, .int .i64 cur, .slice p len cap] w fun e w' => e = .returned (.bool true) ∧ Below w.heap.size w w' := by
  have cw := awake_any w hZ
  by_cases hbig : 2000 < s.size
  · have hz : (2000 : Int) < (s.size : Int) := by omega
    replace hO := Lib.hid hO
    replace hZ := Lib.hid hZ
    replace cw := Lib.hid cw
    go_enter Tryd.func4, Tryd.ntmps4
    go_wp2_with (go_at_call 7; (with_reducible refine cw.out.mono ?_); rintro e w1 ⟨rfl, hb1⟩; replace hb1 := Lib.hid hb1)
    go_ret
    exact ⟨rfl, hb1.out⟩
  have hz : ¬ (2000 : Int) < (s.size : Int) := by omega
  have cP := fun W (h : SZ W) => read_any s mem cur W h (by omega)
  have cR := fun W => rread_any s mem cur W (by omega)
  rcases hr : readB (bl s) mem cur with _ | b
  · have cP2 : ∀ W, SZ W → Calls Tryd.prog 16 #[.string s, .int .i64 mem, .int .i64 cur] W fun e w' => e = .returned (.tuple #[.pointer none, .int .i64 2]) ∧ Below W.heap.size W w' := fun W h => (cP W h).mono fun e w' q => ⟨q.no hr, q.bl⟩
    have cR2 : ∀ W, Calls Tryd.prog 17 #[.string s, .int .i64 mem, .int .i64 cur] W fun e w' => e = .returned (.tuple #[.pointer none, .int .i64 2]) ∧ Below W.heap.size W w' := fun W => (cR W).mono fun e w' q => ⟨q.no hr, q.bl⟩
    clear cP cR hr
    replace hO := Lib.hid hO
    replace hZ := Lib.hid hZ
    replace cw := Lib.hid cw
    replace cP2 := Lib.hid cP2
    replace cR2 := Lib.hid cR2
    go_enter Tryd.func4, Tryd.ntmps4
    go_wp2_with (first | (go_at_call 7; (with_reducible refine cw.out.mono ?_); rintro e w1 ⟨rfl, hb1⟩; replace hb1 := Lib.hid hb1) | (go_at_call 16; (with_reducible refine (cP2.out _ (hZ.out.below hb1.out)).mono ?_); rintro e w2 ⟨rfl, hb2⟩; replace hb2 := Lib.hid hb2) | (go_at_call 17; (with_reducible refine (cR2.out _).mono ?_); rintro e w3 ⟨rfl, hb3⟩; replace hb3 := Lib.hid hb3))
    go_ret
    exact ⟨rfl, (hb1.out.trans (hb2.out.mono hb1.out.size)).trans (hb3.out.mono (Nat.le_trans hb1.out.size hb2.out.size))⟩
  · obtain ⟨hok, htx, hm1, hm2⟩ := readB_some hr
    have hTs : (⟨b.text.toArray⟩ : ByteArray) = s := text_of htx
    have cP2 : ∀ W, SZ W → Calls Tryd.prog 16 #[.string s, .int .i64 mem, .int .i64 cur] W fun e w' => ∃ gb, e = .returned (.tuple #[.pointer (some ⟨gb, 0, none⟩), .int .i64 0]) ∧ PB (fun j => ¬ j < W.heap.size) w' gb b ∧ Below W.heap.size W w' := fun W h => (cP W h).mono fun e w' q => by
      obtain ⟨gb, q1, q2, q3⟩ := q.yes b hr
      exact ⟨gb, q1, (PB.live gb b).weak q2 fun j _ hj => by omega, q.bl⟩
    have cR2 : ∀ W, Calls Tryd.prog 17 #[.string s, .int .i64 mem, .int .i64 cur] W fun e w' => ∃ rb, e = .returned (.tuple #[.pointer (some ⟨rb, 0, none⟩), .int .i64 0]) ∧ RB (fun j => ¬ j < W.heap.size) w' rb b ∧ Below W.heap.size W w' := fun W => (cR W).mono fun e w' q => by
      obtain ⟨rb, q1, q2, q3⟩ := q.yes b hr
      exact ⟨rb, q1, (RB.live rb b).weak q2 fun j _ hj => by omega, q.bl⟩
    clear cP cR hr htx hm1 hm2
    have cT1 := fun G gb rb W (h : BB G gb b rb b W) (hz : SZ W) => h.ptext hz
    have cT2 := fun G gb rb W (h : BB G gb b rb b W) => h.rtext
    rw [hTs] at cT1 cT2
    replace cT1 := Lib.hid cT1
    replace cT2 := Lib.hid cT2
    replace hok := Lib.hid hok
    replace hO := Lib.hid hO
    replace hZ := Lib.hid hZ
    replace cw := Lib.hid cw
    replace cP2 := Lib.hid cP2
    replace cR2 := Lib.hid cR2
    replace hTs := Lib.hid hTs
    go_enter Tryd.func4, Tryd.ntmps4
    go_wp2_with (first | (go_at_call 7; (with_reducible refine cw.out.mono ?_); rintro e w1 ⟨rfl, hb1⟩; replace hb1 := Lib.hid hb1) | (go_at_call 16; (with_reducible refine (cP2.out _ (hZ.out.below hb1.out)).mono ?_); rintro e w2 ⟨gb, rfl, hB2, hb2⟩; replace hB2 := Lib.hid hB2; replace hb2 := Lib.hid hb2) | (go_at_call 17; (with_reducible refine (cR2.out _).mono ?_); rintro e w3 ⟨rb, rfl, hR3, hb3⟩; have hS0 := Lib.hid (BB.made hB2.out hR3 hb3 hb2.out.size hok.out); have hBl0 := Lib.hid (hb2.out.trans (hb3.mono hb2.out.size)); clear hb3 hR3) | (go_at_call 11; (with_reducible refine (cT1.out _ _ _ _ hS0.out (hZ.out.below (hb1.out.trans (hBl0.out.mono hb1.out.size)))).mono ?_); rintro e w4 ⟨rfl, hb4⟩; have hS1 := Lib.hid (hS0.out.below hb4); have hBl1 := Lib.hid (hBl0.out.trans (hb4.mono hBl0.out.size)); clear hb4) | (go_at_call 12; (with_reducible refine (cT2.out _ _ _ _ hS1.out).mono ?_); rintro e w5 ⟨rfl, hb5⟩; have hS2 := Lib.hid (hS1.out.below hb5); have hBl2 := Lib.hid (hBl1.out.trans (hb5.mono hBl1.out.size)); clear hb5))
    go_loopw [13] (fun i wr => ∃ (k : Nat) (b : Bk), k ≤ len ∧ k ≤ 60 ∧ i = .int .i64 (k : Int) ∧ Hid (BB (fun j => j < w1.heap.size) gb b rb b wr) ∧ Hid (Below w1.heap.size w1 wr)) (fun i _ => 60 - (intOf i).toNat)
    case atStart => exact ⟨0, _, by omega, by omega, rfl, hS2, hBl2⟩
    case round =>
      obtain ⟨k, b2, hk, hk6, rfl, hS, hBl⟩ := hrel
      have hBw := hb1.out.trans (hBl.out.mono hb1.out.size)
      by_cases hkl : k < len
      · have hkz : (k : Int) < (len : Int) := by omega
        by_cases hk60 : k < 60
        · have hk6z : (k : Int) < 60 := by omega
          obtain ⟨x, hx⟩ : ∃ x, ops[k]? = some x := ⟨_, List.getElem?_eq_getElem (by rw [hO.out.1]; exact hkl)⟩
          have hxin : x.In := hO.out.2.2.1 x (List.mem_of_getElem? hx)
          obtain ⟨ob, off, rfl, q0, q1, q2, q3, q4, q5, q6, q7, q8, q9⟩ := (hO.out.kept hBw).at hx
          have hkz0 : (0 : Int) ≤ (k : Int) := by omega
          have cD := do_any hS.out x hxin
          have hstep : ∀ W, Kp (fun j => ¬ j < w1.heap.size) wr W → Below w1.heap.size w1 W := fun W hK => hBl.out.trans (hK.below hBl.out.size fun j hj hn => hn hj)
          have cTp := fun W (h : BB (fun j => j < w1.heap.size) gb (b2.op x) rb (b2.op x) W) (hz : SZ W) => h.ptext hz
          have cTr := fun W (h : BB (fun j => j < w1.heap.size) gb (b2.op x) rb (b2.op x) W) => h.rtext
          have hZZ : ∀ W, Below w1.heap.size w1 W → SZ W := fun W hW => hZ.out.below (hb1.out.trans (hW.mono hb1.out.size))
          unfold XOp.arr at cD
          generalize b2.op x = b1 at *
          obtain ⟨T, hT⟩ : ∃ T : ByteArray, T = ⟨b1.text.toArray⟩ := ⟨_, rfl⟩
          rw [← hT] at cTp cTr
          replace hT := Lib.hid hT
          replace cD := Lib.hid cD
          replace cTp := Lib.hid cTp
          replace cTr := Lib.hid cTr
          replace hZZ := Lib.hid hZZ
          replace hstep := Lib.hid hstep
          replace hxin := Lib.hid hxin
          replace hBw := Lib.hid hBw
          replace hx := Lib.hid hx
          go_wp2_with (first | (go_at_call 10; (with_reducible refine cD.out.mono ?_); rintro e W2 ⟨rfl, hS2, hK2⟩; have hBl2 := Lib.hid (hstep.out _ hK2); replace hS2 := Lib.hid hS2; clear hK2) | (go_at_call 11; (with_reducible refine (cTp.out _ hS2.out (hZZ.out _ hBl2.out)).mono ?_); rintro e W3 ⟨rfl, hb4⟩; have hS3 := Lib.hid (hS2.out.below hb4); have hBl3 := Lib.hid (hBl2.out.trans (hb4.mono hBl2.out.size)); clear hb4) | (go_at_call 12; (with_reducible refine (cTr.out _ hS3.out).mono ?_); rintro e W4 ⟨rfl, hb5⟩; have hS4 := Lib.hid (hS3.out.below hb5); have hBl4 := Lib.hid (hBl3.out.trans (hb5.mono hBl3.out.size)); clear hb5))
          go_roundw
          case rel => exact ⟨k + 1, b1, by omega, by omega, by go_num, hS4, hBl4⟩
          case measure => simp [intOf]; omega
        · have hk6z : ¬ (k : Int) < 60 := by omega
          go_wp2_with fail
          go_ret
          exact ⟨rfl, hBw⟩
      · have hkz : ¬ (k : Int) < (len : Int) := by omega
        go_wp2_with fail
        go_ret
        exact ⟨rfl, hBw⟩
end Go.Proofs.YtflbggehgjllcaaDoor
