/- The reference's Net: one number's sum over a book's instructions.
  The reference's Net: one member's row. -/
import Derived.Test.YthocnlalahknjaaGreatQNB
import Derived.Test.YthocnlalahknjaaGreatQWcd
namespace Go.Proofs.YthocnlalahknjaaGreat.Dd
open Go.RowKit
set_option linter.unusedVariables false
/-- a sum, with one instruction more -/
def stepD (m c : Nat) (N : Int) (d : Dl) : Int :=
  let N1 := if decide (d.sc = c ∧ d.a = m) = true then N + -d.s else N
  let N2 := if decide (d.sc = c ∧ d.b = m) = true then N1 + d.s else N1
  let N3 := if decide (d.bc = c ∧ d.a = m) = true then N2 + d.t else N2
  if decide (d.bc = c ∧ d.b = m) = true then N3 + -d.t else N3
def stepE (m c : Nat) (N : Int) (e : En) : Int := if e.st = 2 then stepD m c N e.d else N
def sumE (l : List En) (m c k : Nat) : Int := (l.take k).foldl (stepE m c) 0
theorem sumE_succ {l : List En} {m c k : Nat} (h : k < l.length) : sumE l m c (k + 1) = stepE m c (sumE l m c k) l[k] := by
  unfold sumE; rw [List.take_succ_eq_append_getElem h, List.foldl_append]; rfl
theorem Put.cell {w W : World} {b L : Nat} {N : Int} (h : Put w W b L N) {g i : Nat} {v : Value} (hc : w.cell? ⟨g, i, none⟩ = some v) (hg : g < w.heap.size) (hne : g ≠ b) : W.cell? ⟨g, i, none⟩ = some v := by
  rw [← hc]
  show W.cell? ⟨g, i, none⟩ = w.cell? ⟨g, i, none⟩
  unfold World.cell?
  rw [h.kp.block g hg hne]
set_option maxHeartbeats 4000000 in
set_option maxRecDepth 100000 in
theorem sumE_any {Q : Exit → Act → World → Prop} (rb b m c n : Nat) (bk : Bk) (P : Nat → Prop) (v : Value) (n0 : Bool) (p0 : Option Addr) (l0 c0 : Nat) (w : World)
    (hR : RBv P w rb bk v) (hrb : rb < b) (hvb : ∀ g, v.ownBlock = some g → g < b) (hn : n = bk.l.length) (hn2 : n ≤ 200) (hA : BigAt w b 5 0 n0 p0 l0 c0)
    (hok : ∀ e ∈ bk.l, e.st = 2 → -9223372036854775808 < e.d.s ∧ e.d.s ≤ 9223372036854775807 ∧ -9223372036854775808 < e.d.t ∧ e.d.t ≤ 9223372036854775807)
    (u1 u2 u3 u4 u5 u6 u7 u8 u9 u10 u12 u16 u17 u18 u19 u20 u21 u22 u23 u24 u25 u26 u27 u28 u29 u30 u31 u32 u33 u34 u35 u36 u37 u38 u39 u40 u41 u42 u43 u44 u45 u46 u47 u48 u49 u50 u51 u52 u53 u54 u55 u56 u57 u58 u59 u60 u61 u62 u63 u64 u65 u66 u67 u68 u69 u70 u71 u72 u73 u74 u75 u76 u77 u78 u79 u80 u81 u82 u83 u84 u85 u86 u87 u88 u89 u90 u91 u92 u93 u94 u95 u96 u97 u98 u99 u100 u101 u102 u103 u104 u105 u106 u107 u108 u109 u110 u111 u112 u113 u114 u115 u116 u117 u118 u119 u120 u121 u122 u123 u124 u125 u126 u127 u128 u129 u130 u131 u132 u133 u134 u135 u136 u137 u138 u139 u140 u141 u142 u143 u144 u145 u146 u147 u148 u149 u150 u151 u152 u153 u154 u155 u156 u157 u158 u159 u160 u161 u162 u163 u164 u165 u166 u167 u168 u169 u170 u171 u172 u173 u174 u175 u176 u177 u178 u179 u180 u181 u182 u183 u184 u185 u186 u187 u188 u189 u190 u191 u192 u193 u194 u195 u196 u197 u198 u199 u200 : Value)
    (hK : ∀ (v15 v16 v96 v97 v98 v99 v100 v101 v102 v103 v104 v105 v106 v107 v108 v109 v110 v111 v112 v113 v114 v115 v116 v117 v118 v119 v120 v121 v122 v123 v124 v125 v126 v127 v128 v129 v130 v131 v132 v133 v134 v135 v136 v137 v138 v139 v140 v141 v142 v143 v144 v145 v146 v147 v148 v149 v150 v151 v152 v153 v154 v155 v156 v157 v158 v159 v160 v161 v162 v163 v164 v165 v166 v167 v168 v169 v170 v171 v172 v173 v174 v175 v176 v177 v178 v179 v180 v181 v182 v183 : Value)  (W9 : World), Put w W9 b (5 + 4 * n) (sumE bk.l m c n) → Q .normal ({ tmps := (Value.pointer (some ⟨rb, 0, none⟩) :: u1 :: u2 :: u3 :: u4 :: u5 :: u6 :: u7 :: u8 :: u9 :: u10 :: Value.int .i64 (m : Int) :: u12 :: Value.int .i64 (c : Int) :: Value.pointer (some ⟨b, 0, none⟩) :: v15 :: v16 :: u17 :: u18 :: u19 :: u20 :: u21 :: u22 :: u23 :: u24 :: u25 :: u26 :: u27 :: u28 :: u29 :: u30 :: u31 :: u32 :: u33 :: u34 :: u35 :: u36 :: u37 :: u38 :: u39 :: u40 :: u41 :: u42 :: u43 :: u44 :: u45 :: u46 :: u47 :: u48 :: u49 :: u50 :: u51 :: u52 :: u53 :: u54 :: u55 :: u56 :: u57 :: u58 :: u59 :: u60 :: u61 :: u62 :: u63 :: u64 :: u65 :: u66 :: u67 :: u68 :: u69 :: u70 :: u71 :: u72 :: u73 :: u74 :: u75 :: u76 :: u77 :: u78 :: u79 :: u80 :: u81 :: u82 :: u83 :: u84 :: u85 :: u86 :: u87 :: u88 :: u89 :: u90 :: u91 :: u92 :: u93 :: u94 :: u95 :: v96 :: v97 :: v98 :: v99 :: v100 :: v101 :: v102 :: v103 :: v104 :: v105 :: v106 :: v107 :: v108 :: v109 :: v110 :: v111 :: v112 :: v113 :: v114 :: v115 :: v116 :: v117 :: v118 :: v119 :: v120 :: v121 :: v122 :: v123 :: v124 :: v125 :: v126 :: v127 :: v128 :: v129 :: v130 :: v131 :: v132 :: v133 :: v134 :: v135 :: v136 :: v137 :: v138 :: v139 :: v140 :: v141 :: v142 :: v143 :: v144 :: v145 :: v146 :: v147 :: v148 :: v149 :: v150 :: v151 :: v152 :: v153 :: v154 :: v155 :: v156 :: v157 :: v158 :: v159 :: v160 :: v161 :: v162 :: v163 :: v164 :: v165 :: v166 :: v167 :: v168 :: v169 :: v170 :: v171 :: v172 :: v173 :: v174 :: v175 :: v176 :: v177 :: v178 :: v179 :: v180 :: v181 :: v182 :: v183 :: u184 :: u185 :: u186 :: u187 :: u188 :: u189 :: u190 :: u191 :: u192 :: u193 :: u194 :: u195 :: u196 :: u197 :: u198 :: u199 :: u200 :: []).toArray, defers := [] } : Act) W9) :
    Code.wp Tryz.prog cb6 Q ({ tmps := (Value.pointer (some ⟨rb, 0, none⟩) :: u1 :: u2 :: u3 :: u4 :: u5 :: u6 :: u7 :: u8 :: u9 :: u10 :: Value.int .i64 (m : Int) :: u12 :: Value.int .i64 (c : Int) :: Value.pointer (some ⟨b, 0, none⟩) :: Value.int .i64 0 :: u16 :: u17 :: u18 :: u19 :: u20 :: u21 :: u22 :: u23 :: u24 :: u25 :: u26 :: u27 :: u28 :: u29 :: u30 :: u31 :: u32 :: u33 :: u34 :: u35 :: u36 :: u37 :: u38 :: u39 :: u40 :: u41 :: u42 :: u43 :: u44 :: u45 :: u46 :: u47 :: u48 :: u49 :: u50 :: u51 :: u52 :: u53 :: u54 :: u55 :: u56 :: u57 :: u58 :: u59 :: u60 :: u61 :: u62 :: u63 :: u64 :: u65 :: u66 :: u67 :: u68 :: u69 :: u70 :: u71 :: u72 :: u73 :: u74 :: u75 :: u76 :: u77 :: u78 :: u79 :: u80 :: u81 :: u82 :: u83 :: u84 :: u85 :: u86 :: u87 :: u88 :: u89 :: u90 :: u91 :: u92 :: u93 :: u94 :: u95 :: u96 :: u97 :: u98 :: u99 :: u100 :: u101 :: u102 :: u103 :: u104 :: u105 :: u106 :: u107 :: u108 :: u109 :: u110 :: u111 :: u112 :: u113 :: u114 :: u115 :: u116 :: u117 :: u118 :: u119 :: u120 :: u121 :: u122 :: u123 :: u124 :: u125 :: u126 :: u127 :: u128 :: u129 :: u130 :: u131 :: u132 :: u133 :: u134 :: u135 :: u136 :: u137 :: u138 :: u139 :: u140 :: u141 :: u142 :: u143 :: u144 :: u145 :: u146 :: u147 :: u148 :: u149 :: u150 :: u151 :: u152 :: u153 :: u154 :: u155 :: u156 :: u157 :: u158 :: u159 :: u160 :: u161 :: u162 :: u163 :: u164 :: u165 :: u166 :: u167 :: u168 :: u169 :: u170 :: u171 :: u172 :: u173 :: u174 :: u175 :: u176 :: u177 :: u178 :: u179 :: u180 :: u181 :: u182 :: u183 :: u184 :: u185 :: u186 :: u187 :: u188 :: u189 :: u190 :: u191 :: u192 :: u193 :: u194 :: u195 :: u196 :: u197 :: u198 :: u199 :: u200 :: []).toArray, defers := [] } : Act) w := by
  replace hK := Lib.hid hK
  have h0 : Hid (Put w w b (5 + 4 * 0) (sumE bk.l m c 0)) := Lib.hid ⟨⟨_, _, _, _, hA⟩, Kp.refl _ _⟩
  obtain ⟨pv, cv, hv, -, -, hpv⟩ := orow_shape hR.row
  rw [← hn] at hv hpv
  have hbl := hA.lt
  replace hR := Lib.hid hR
  replace hvb := Lib.hid hvb
  replace hok := Lib.hid hok
  replace hn := Lib.hid hn
  replace hv := Lib.hid hv
  replace hpv := Lib.hid hpv
  clear hA
  have hr2 : w.cell? ⟨rb, 2, none⟩ = some v := obj_cell hR.out.obj (i := 2) rfl
  rw [hv.out] at hr2
  replace hr2 := Lib.hid hr2
  conv => arg 2; whnf
  go_wp2_with fail
  go_loopw [15] (fun i wr => ∃ k : Nat, k ≤ n ∧ i = .int .i64 (k : Int) ∧ Hid (Put w wr b (5 + 4 * k) (sumE bk.l m c k))) (fun i _ => n - (intOf i).toNat)
  case atStart => exact ⟨0, by omega, rfl, h0⟩
  case round =>
    obtain ⟨k, hk, rfl, hS⟩ := hrel
    have hrl : rb < w.heap.size := by omega
    have hr := hS.out.cell hr2.out hrl (by omega)
    by_cases hkn : k < n
    · have hkl : k < bk.l.length := by have := hn.out; omega
      have zk : (k : Int) < (n : Int) := by omega
      obtain ⟨gv, capv, curv, hsl, hgv, -, -, -, hat⟩ := orow_some hR.out.row (by omega)
      have hvo : v.ownBlock = some gv := by rw [hsl]; rfl
      rw [hsl, ← hn.out] at hv
      have hpe : pv = some ⟨gv, 0, none⟩ := by have := hv.out; injection this with x _ _; exact x.symm
      subst hpe
      have hgb : gv < b := hvb.out gv hvo
      have hgl : gv < w.heap.size := by omega
      have hcell : ∀ j u, (bk.l[k]).rcs[j]? = some u → wr.cell? ⟨gv, k * 11 + j, none⟩ = some u := fun j u hj => by
        have hjl : j < 11 := by have := (List.getElem?_eq_some_iff.1 hj).1; rw [En.rcs_len] at this; exact this
        exact hS.out.cell (obj_cell hgv (hat _ _ (by rw [cellsR_at hkl j hjl]; exact hj))) hgl (by omega)
      have e0 := hcell 0 _ rfl
      have e1 := hcell 1 _ rfl
      have e2 := hcell 2 _ rfl
      have e3 := hcell 3 _ rfl
      have e4 := hcell 4 _ rfl
      have e5 := hcell 5 _ rfl
      have e6 := hcell 6 _ rfl
      have e7 := hcell 7 _ rfl
      rw [Nat.add_zero] at e0
      have hsucc := sumE_succ (m := m) (c := c) hkl
      have hoke := hok.out _ (List.getElem_mem hkl)
      have hgr : gv < wr.heap.size := Nat.lt_of_lt_of_le hgl hS.out.kp.size
      have hrr : rb < wr.heap.size := Nat.lt_of_lt_of_le hrl hS.out.kp.size
      have hbr : b < wr.heap.size := Nat.lt_of_lt_of_le hbl hS.out.kp.size
      generalize bk.l[k] = x at *
      obtain ⟨⟨y1, y2, y3, y4, y5, y6, y7⟩, st, ask, nth⟩ := x
      unfold stepE at hsucc
      dsimp only at e0 e1 e2 e3 e4 e5 e6 e7 hsucc hoke
      obtain ⟨W1, hW1⟩ : ∃ W1, W1 = wr.alloc (.cells #[.int .i64 y1, .int .i64 y2, .int .i64 y3, .int .i64 y4, .int .i64 y5, .int .i64 y6, .int .i64 y7] 60) := ⟨_, rfl⟩
      have hbx := heap_alloc_new wr (.cells #[.int .i64 y1, .int .i64 y2, .int .i64 y3, .int .i64 y4, .int .i64 y5, .int .i64 y6, .int .i64 y7] 60)
      have hbW : Below wr.heap.size wr W1 := by rw [hW1]; exact (Below.refl _ _).alloc (Nat.le_refl _) _
      have hW1' : Hid (wr.alloc (.cells #[.int .i64 y1, .int .i64 y2, .int .i64 y3, .int .i64 y4, .int .i64 y5, .int .i64 y6, .int .i64 y7] 60) = W1) := Lib.hid hW1.symm
      rw [hW1'.out] at hbx
      replace hW1 := True.intro
      obtain ⟨gd, hgd⟩ : ∃ gd, gd = wr.heap.size := ⟨_, rfl⟩
      have b1 := obj_cell hbx (i := 1) rfl
      have b2 := obj_cell hbx (i := 2) rfl
      have b3 := obj_cell hbx (i := 3) rfl
      have b4 := obj_cell hbx (i := 4) rfl
      have b5 := obj_cell hbx (i := 5) rfl
      have b6 := obj_cell hbx (i := 6) rfl
      have hgN : wr.heap.size < W1.heap.size := obj_lt hbx
      have f2 := (hbW.cell (p := ⟨rb, 2, none⟩) hrr).trans hr
      have f7 := (hbW.cell (p := ⟨gv, k * 11 + 7, none⟩) hgr).trans e7
      have hS1 : Hid (Put w W1 b (5 + 4 * k) (sumE bk.l m c k)) := Lib.hid (by
        obtain ⟨⟨q1, q2, q3, q4, q5⟩, q6⟩ := hS.out
        exact ⟨⟨q1, q2, q3, q4, q5.kept hbW⟩, q6.trans ⟨hbW.os, hbW.tape, hbW.output, hbW.size, fun j hj _ => hbW.block j hj⟩⟩)
      clear hcell hat hgv hsl hvo
      replace hbx := Lib.hid hbx
      replace hbW := Lib.hid hbW
      replace hsucc := Lib.hid hsucc
      replace hoke := Lib.hid hoke
      go_upto_region 22 with fail
      rw [hW1'.out]
      clear e0 e1 e2 e3 e4 e5 e6 e7 hr
      rw [← hgd] at b1 b2 b3 b4 b5 b6 hgN ⊢
      replace hgd := Lib.hid hgd
      by_cases hst : st = 2
      · subst hst
        obtain ⟨o1, o2, o3, o4⟩ := hoke.out rfl
        have hsc := hsucc
        obtain ⟨⟨n1, p1, l1, c1, hB1⟩, hkp1⟩ := hS1.out
        have hgdb : gd ≠ b := by have := hgd.out; omega
        replace hB1 := Lib.hid hB1
        replace hkp1 := Lib.hid hkp1
        go_upto_region 23 with fail
        refine r23_any gd m c y4 y2 W1 b3 b1 _ _ _ _ _ _ _ _ _ _ _ _ _ _ _ _ _ _ _ _ _ _ _ _ _ _ _ _ _ _ _ _ _ _ _ _ _ _ _ _ _ _ _ _ _ _ _ _ _ _ _ _ _ _ _ _ _ _ _ _ _ _ _ _ _ _ _ _ _ _ _ _ _ _ _ _ _ _ _ _ _ _ _ _ _ _ _ _ _ _ _ _ _ _ _ _ _ _ _ _ _ _ _ _ _ _ _ _ _ _ _ _ _ _ _ _ _ _ _ _ _ _ _ _ _ _ _ _ _ _ _ _ _ _ _ _ _ _ _ _ _ _ _ _ _ _ _ _ _ _ _ _ _ _ _ _ _ _ _ _ _ _ _ _ _ _ _ _ _ _ _ _ _ _ _ _ _ _ _ _ _ _ _ _ _ _ _ _ _ _ _ _ _ _ _ _ _ _ ?_
        rintro v122 v123 v124 v125 v126 v127 v128 v129 v130 W9 rfl
        go_upto_if 131 with fail
        refine c24_any b gd (5 + 4 * k) (decide (y4 = c ∧ y2 = m)) _ y6 n1 p1 l1 c1 W1 hB1.out (by omega) (by omega) b5 o1 o2 _ _ _ _ _ _ _ _ _ _ _ _ _ _ _ _ _ _ _ _ _ _ _ _ _ _ _ _ _ _ _ _ _ _ _ _ _ _ _ _ _ _ _ _ _ _ _ _ _ _ _ _ _ _ _ _ _ _ _ _ _ _ _ _ _ _ _ _ _ _ _ _ _ _ _ _ _ _ _ _ _ _ _ _ _ _ _ _ _ _ _ _ _ _ _ _ _ _ _ _ _ _ _ _ _ _ _ _ _ _ _ _ _ _ _ _ _ _ _ _ _ _ _ _ _ _ _ _ _ _ _ _ _ _ _ _ _ _ _ _ _ _ _ _ _ _ _ _ _ _ _ _ _ _ _ _ _ _ _ _ _ _ _ _ _ _ _ _ _ _ _ _ _ _ _ _ _ _ _ _ _ _ _ _ _ _ _ _ _ _ _ _ _ _ _ _ _ _ ?_
        intro v132 v133 v134 v135 v136 v137 W2 hP2
        have d1 := hP2.cell b1 hgN hgdb
        have d2 := hP2.cell b2 hgN hgdb
        have d3 := hP2.cell b3 hgN hgdb
        have d4 := hP2.cell b4 hgN hgdb
        have d5 := hP2.cell b5 hgN hgdb
        have d6 := hP2.cell b6 hgN hgdb
        have hg2 : gd < W2.heap.size := Nat.lt_of_lt_of_le hgN hP2.kp.size
        obtain ⟨⟨n2, p2, l2, c2, hB2⟩, hkp2⟩ := hP2
        replace hB2 := Lib.hid hB2
        replace hkp2 := Lib.hid (hkp1.out.trans hkp2)
        clear b1 b2 b3 b4 b5 b6 f2 f7
        go_upto_region 25 with fail
        refine r25_any gd m c y4 y3 W2 d3 d2 _ _ _ _ _ _ _ _ _ _ _ _ _ _ _ _ _ _ _ _ _ _ _ _ _ _ _ _ _ _ _ _ _ _ _ _ _ _ _ _ _ _ _ _ _ _ _ _ _ _ _ _ _ _ _ _ _ _ _ _ _ _ _ _ _ _ _ _ _ _ _ _ _ _ _ _ _ _ _ _ _ _ _ _ _ _ _ _ _ _ _ _ _ _ _ _ _ _ _ _ _ _ _ _ _ _ _ _ _ _ _ _ _ _ _ _ _ _ _ _ _ _ _ _ _ _ _ _ _ _ _ _ _ _ _ _ _ _ _ _ _ _ _ _ _ _ _ _ _ _ _ _ _ _ _ _ _ _ _ _ _ _ _ _ _ _ _ _ _ _ _ _ _ _ _ _ _ _ _ _ _ _ _ _ _ _ _ _ _ _ _ _ _ _ _ _ _ _ ?_
        rintro v138 v139 v140 v141 v142 v143 v144 v145 v146 W9 rfl
        go_upto_if 147 with fail
        refine c26_any b gd (5 + 4 * k + 1) (decide (y4 = c ∧ y3 = m)) _ y6 n2 p2 l2 c2 W2 hB2.out (by omega) (by omega) d5 o1 o2 _ _ _ _ _ _ _ _ _ _ _ _ _ _ _ _ _ _ _ _ _ _ _ _ _ _ _ _ _ _ _ _ _ _ _ _ _ _ _ _ _ _ _ _ _ _ _ _ _ _ _ _ _ _ _ _ _ _ _ _ _ _ _ _ _ _ _ _ _ _ _ _ _ _ _ _ _ _ _ _ _ _ _ _ _ _ _ _ _ _ _ _ _ _ _ _ _ _ _ _ _ _ _ _ _ _ _ _ _ _ _ _ _ _ _ _ _ _ _ _ _ _ _ _ _ _ _ _ _ _ _ _ _ _ _ _ _ _ _ _ _ _ _ _ _ _ _ _ _ _ _ _ _ _ _ _ _ _ _ _ _ _ _ _ _ _ _ _ _ _ _ _ _ _ _ _ _ _ _ _ _ _ _ _ _ _ _ _ _ _ _ _ _ _ _ _ _ _ ?_
        intro v148 v149 v150 v151 v152 W3 hP3
        have b1 := hP3.cell d1 hg2 hgdb
        have b2 := hP3.cell d2 hg2 hgdb
        have b4 := hP3.cell d4 hg2 hgdb
        have b6 := hP3.cell d6 hg2 hgdb
        have hg3 : gd < W3.heap.size := Nat.lt_of_lt_of_le hg2 hP3.kp.size
        obtain ⟨⟨n3, p3, l3, c3, hB3⟩, hkp3⟩ := hP3
        replace hB3 := Lib.hid hB3
        replace hkp3 := Lib.hid (hkp2.out.trans hkp3)
        clear d1 d2 d3 d4 d5 d6
        go_upto_region 27 with fail
        refine r27_any gd m c y5 y2 W3 b4 b1 _ _ _ _ _ _ _ _ _ _ _ _ _ _ _ _ _ _ _ _ _ _ _ _ _ _ _ _ _ _ _ _ _ _ _ _ _ _ _ _ _ _ _ _ _ _ _ _ _ _ _ _ _ _ _ _ _ _ _ _ _ _ _ _ _ _ _ _ _ _ _ _ _ _ _ _ _ _ _ _ _ _ _ _ _ _ _ _ _ _ _ _ _ _ _ _ _ _ _ _ _ _ _ _ _ _ _ _ _ _ _ _ _ _ _ _ _ _ _ _ _ _ _ _ _ _ _ _ _ _ _ _ _ _ _ _ _ _ _ _ _ _ _ _ _ _ _ _ _ _ _ _ _ _ _ _ _ _ _ _ _ _ _ _ _ _ _ _ _ _ _ _ _ _ _ _ _ _ _ _ _ _ _ _ _ _ _ _ _ _ _ _ _ _ _ _ _ _ ?_
        rintro v153 v154 v155 v156 v157 v158 v159 v160 v161 W9 rfl
        go_upto_if 162 with fail
        refine c28_any b gd (5 + 4 * k + 1 + 1) (decide (y5 = c ∧ y2 = m)) _ y7 n3 p3 l3 c3 W3 hB3.out (by omega) (by omega) b6 o3 o4 _ _ _ _ _ _ _ _ _ _ _ _ _ _ _ _ _ _ _ _ _ _ _ _ _ _ _ _ _ _ _ _ _ _ _ _ _ _ _ _ _ _ _ _ _ _ _ _ _ _ _ _ _ _ _ _ _ _ _ _ _ _ _ _ _ _ _ _ _ _ _ _ _ _ _ _ _ _ _ _ _ _ _ _ _ _ _ _ _ _ _ _ _ _ _ _ _ _ _ _ _ _ _ _ _ _ _ _ _ _ _ _ _ _ _ _ _ _ _ _ _ _ _ _ _ _ _ _ _ _ _ _ _ _ _ _ _ _ _ _ _ _ _ _ _ _ _ _ _ _ _ _ _ _ _ _ _ _ _ _ _ _ _ _ _ _ _ _ _ _ _ _ _ _ _ _ _ _ _ _ _ _ _ _ _ _ _ _ _ _ _ _ _ _ _ _ _ _ ?_
        intro v163 v164 v165 v166 v167 W4 hP4
        have d2 := hP4.cell b2 hg3 hgdb
        have d4 := hP4.cell b4 hg3 hgdb
        have d6 := hP4.cell b6 hg3 hgdb
        have hg4 : gd < W4.heap.size := Nat.lt_of_lt_of_le hg3 hP4.kp.size
        obtain ⟨⟨n4, p4, l4, c4, hB4⟩, hkp4⟩ := hP4
        replace hB4 := Lib.hid hB4
        replace hkp4 := Lib.hid (hkp3.out.trans hkp4)
        clear b1 b2 b4 b6
        go_upto_region 29 with fail
        refine r29_any gd m c y5 y3 W4 d4 d2 _ _ _ _ _ _ _ _ _ _ _ _ _ _ _ _ _ _ _ _ _ _ _ _ _ _ _ _ _ _ _ _ _ _ _ _ _ _ _ _ _ _ _ _ _ _ _ _ _ _ _ _ _ _ _ _ _ _ _ _ _ _ _ _ _ _ _ _ _ _ _ _ _ _ _ _ _ _ _ _ _ _ _ _ _ _ _ _ _ _ _ _ _ _ _ _ _ _ _ _ _ _ _ _ _ _ _ _ _ _ _ _ _ _ _ _ _ _ _ _ _ _ _ _ _ _ _ _ _ _ _ _ _ _ _ _ _ _ _ _ _ _ _ _ _ _ _ _ _ _ _ _ _ _ _ _ _ _ _ _ _ _ _ _ _ _ _ _ _ _ _ _ _ _ _ _ _ _ _ _ _ _ _ _ _ _ _ _ _ _ _ _ _ _ _ _ _ _ ?_
        rintro v168 v169 v170 v171 v172 v173 v174 v175 v176 W9 rfl
        go_upto_if 177 with fail
        refine c30_any b gd (5 + 4 * k + 1 + 1 + 1) (decide (y5 = c ∧ y3 = m)) _ y7 n4 p4 l4 c4 W4 hB4.out (by omega) (by omega) d6 o3 o4 _ _ _ _ _ _ _ _ _ _ _ _ _ _ _ _ _ _ _ _ _ _ _ _ _ _ _ _ _ _ _ _ _ _ _ _ _ _ _ _ _ _ _ _ _ _ _ _ _ _ _ _ _ _ _ _ _ _ _ _ _ _ _ _ _ _ _ _ _ _ _ _ _ _ _ _ _ _ _ _ _ _ _ _ _ _ _ _ _ _ _ _ _ _ _ _ _ _ _ _ _ _ _ _ _ _ _ _ _ _ _ _ _ _ _ _ _ _ _ _ _ _ _ _ _ _ _ _ _ _ _ _ _ _ _ _ _ _ _ _ _ _ _ _ _ _ _ _ _ _ _ _ _ _ _ _ _ _ _ _ _ _ _ _ _ _ _ _ _ _ _ _ _ _ _ _ _ _ _ _ _ _ _ _ _ _ _ _ _ _ _ _ _ _ _ _ _ _ ?_
        intro v178 v179 v180 v181 v182 v183 W5 hP5
        obtain ⟨⟨n5, p5, l5, c5, hB5⟩, hkp5⟩ := hP5
        have hfin : Hid (Put w W5 b (5 + 4 * (k + 1)) (sumE bk.l m c (k + 1))) := Lib.hid (by
          rw [hsc.out]
          exact ⟨⟨n5, p5, l5, c5, hB5⟩, hkp4.out.trans hkp5⟩)
        clear hB5 hkp5 d2 d4 d6
        go_wp2_with fail
        go_roundw
        case rel => exact ⟨k + 1, by omega, by go_num, hfin⟩
        case measure => simp [intOf]; omega
      · have zst : (st == (2 : Int)) = false := by simp [hst]
        have hfin : Hid (Put w W1 b (5 + 4 * (k + 1)) (sumE bk.l m c (k + 1))) := Lib.hid (by
          rw [hsucc.out, if_neg hst]
          obtain ⟨⟨q1, q2, q3, q4, q5⟩, q6⟩ := hS1.out
          exact ⟨⟨q1, q2, q3, q4, big_wide q5 (by omega)⟩, q6⟩)
        go_wp2_with fail
        go_roundw
        case rel => exact ⟨k + 1, by omega, by go_num, hfin⟩
        case measure => simp [intOf]; omega
    · obtain rfl : k = n := by omega
      have zk : ¬ (k : Int) < (k : Int) := by omega
      go_wp2_with fail
      exact hK.out _ _ _ _ _ _ _ _ _ _ _ _ _ _ _ _ _ _ _ _ _ _ _ _ _ _ _ _ _ _ _ _ _ _ _ _ _ _ _ _ _ _ _ _ _ _ _ _ _ _ _ _ _ _ _ _ _ _ _ _ _ _ _ _ _ _ _ _ _ _ _ _ _ _ _ _ _ _ _ _ _ _ _ _ _ _ _ _ _ _ _ hS.out
end Go.Proofs.YthocnlalahknjaaGreat.Dd
namespace Go.Proofs.YthocnlalahknjaaGreat.Dd
open Go.RowKit
set_option linter.unusedVariables false
theorem RBv.bel {P : Nat → Prop} {w w' : World} {rb : Nat} {b : Bk} {v : Value} (h : RBv P w rb b v) (hb : Below w.heap.size w w') : RBv P w' rb b v :=
  ⟨(hb.block _ (obj_lt h.obj)).trans h.obj, orow_kept h.row fun g hg => hb.block g (World.ownsRow.lt h.row g hg).2, h.pg, h.pv⟩
theorem own_new (s : Nat) : ∀ g, (Value.slice (some ⟨s, 0, none⟩) 0 0).ownBlock = some g → s ≤ g := fun g hg => by
  have : g = s := by simpa [Value.ownBlock] using hg.symm
  omega
theorem IR.made (w : World) : IR w (w.alloc (.cells #[] 2)) (.slice (some ⟨w.heap.size, 0, none⟩) 0 0) [] :=
  ⟨World.ownsRow_made w #[] 0 (Nat.zero_le _) (by decide) (by simp), own_new _, (Below.refl _ _).alloc (Nat.le_refl _) _⟩
theorem PR.made (w : World) : PR w (w.alloc (.cells #[] 50)) (.slice (some ⟨w.heap.size, 0, none⟩) 0 0) [] :=
  ⟨⟨[], rfl, World.ownsRow_made w #[] 0 (Nat.zero_le _) (by decide) (by simp), fun i h => by simp at h, fun i j v v' _ h => by simp at h⟩, own_new _, (Below.refl _ _).alloc (Nat.le_refl _) _⟩
theorem big_zero (W : World) : BigAt (W.alloc (.cells #[.bool false, .slice none 0 0] 79)) W.heap.size 5 0 false none 0 0 :=
  ⟨heap_alloc_new W _, ⟨false, none, 0, 0, [], rfl, DRow.nil _ _, Nat.le_refl _, fun _ => rfl, by omega, rfl, fun _ => rfl, by omega⟩⟩
theorem fit_yes {N : Int} (h : Amt N) : fitRV N = N ∧ fitRE N = 0 := by unfold Amt at h; unfold fitRV fitRE; rw [if_pos h, if_pos h]; exact ⟨rfl, rfl⟩
theorem fit_no {N : Int} (h : ¬ Amt N) : fitRV N = 0 ∧ fitRE N = 3 := by unfold Amt at h; unfold fitRV fitRE; rw [if_neg h, if_neg h]; exact ⟨rfl, rfl⟩
/-- what is known of the entries that a book holds -/
def EnsOk (l : List En) : Prop := ∀ e ∈ l, e.st = 2 → -9223372036854775808 < e.d.s ∧ e.d.s ≤ 9223372036854775807 ∧ -9223372036854775808 < e.d.t ∧ e.d.t ≤ 9223372036854775807
set_option maxHeartbeats 4000000 in
set_option maxRecDepth 100000 in
theorem nrow_any {Q : Exit → Act → World → Prop} (rb m nc n : Nat) (bk : Bk) (P : Nat → Prop) (v y0 : Value) (wB w : World)
    (hR : RBv P wB rb bk v) (hn : n = bk.l.length) (hn2 : n ≤ 200) (hnc : nc ≤ 8) (hok : EnsOk bk.l) (hI : IR wB w y0 [])
    (u1 u3 u4 u5 u6 u7 u8 u9 u10 u14 u15 u16 u17 u18 u19 u20 u21 u22 u23 u24 u25 u26 u27 u28 u29 u30 u31 u32 u33 u34 u35 u36 u37 u38 u39 u40 u41 u42 u43 u44 u45 u46 u47 u48 u49 u50 u51 u52 u53 u54 u55 u56 u57 u58 u59 u60 u61 u62 u63 u64 u65 u66 u67 u68 u69 u70 u71 u72 u73 u74 u75 u76 u77 u78 u79 u80 u81 u82 u83 u84 u85 u86 u87 u88 u89 u90 u91 u92 u93 u94 u95 u96 u97 u98 u99 u100 u101 u102 u103 u104 u105 u106 u107 u108 u109 u110 u111 u112 u113 u114 u115 u116 u117 u118 u119 u120 u121 u122 u123 u124 u125 u126 u127 u128 u129 u130 u131 u132 u133 u134 u135 u136 u137 u138 u139 u140 u141 u142 u143 u144 u145 u146 u147 u148 u149 u150 u151 u152 u153 u154 u155 u156 u157 u158 u159 u160 u161 u162 u163 u164 u165 u166 u167 u168 u169 u170 u171 u172 u173 u174 u175 u176 u177 u178 u179 u180 u181 u182 u183 u184 u185 u186 u187 u188 u189 u190 u191 u192 u193 u194 u195 u196 u197 u198 u199 u200 : Value)
    (hE : ∀ (v12 v13 v14 v15 v16 v17 v18 v90 v91 v92 v93 v94 v95 v96 v97 v98 v99 v100 v101 v102 v103 v104 v105 v106 v107 v108 v109 v110 v111 v112 v113 v114 v115 v116 v117 v118 v119 v120 v121 v122 v123 v124 v125 v126 v127 v128 v129 v130 v131 v132 v133 v134 v135 v136 v137 v138 v139 v140 v141 v142 v143 v144 v145 v146 v147 v148 v149 v150 v151 v152 v153 v154 v155 v156 v157 v158 v159 v160 v161 v162 v163 v164 v165 v166 v167 v168 v169 v170 v171 v172 v173 v174 v175 v176 v177 v178 v179 v180 v181 v182 v183 v184 v185 v186 v187 v188 v189 v190 v191 v192 v193 v194 v195 : Value) (W9 : World), (∃ c, c < nc ∧ ¬ Amt (sumE bk.l m c n)) → Below wB.heap.size wB W9 → Q .ret ({ tmps := (Value.pointer (some ⟨rb, 0, none⟩) :: u1 :: Value.int .i64 (nc : Int) :: u3 :: u4 :: u5 :: Value.slice none 0 0 :: Value.int .i64 3 :: u8 :: u9 :: u10 :: Value.int .i64 (m : Int) :: v12 :: v13 :: v14 :: v15 :: v16 :: v17 :: v18 :: u19 :: u20 :: u21 :: u22 :: u23 :: u24 :: u25 :: u26 :: u27 :: u28 :: u29 :: u30 :: u31 :: u32 :: u33 :: u34 :: u35 :: u36 :: u37 :: u38 :: u39 :: u40 :: u41 :: u42 :: u43 :: u44 :: u45 :: u46 :: u47 :: u48 :: u49 :: u50 :: u51 :: u52 :: u53 :: u54 :: u55 :: u56 :: u57 :: u58 :: u59 :: u60 :: u61 :: u62 :: u63 :: u64 :: u65 :: u66 :: u67 :: u68 :: u69 :: u70 :: u71 :: u72 :: u73 :: u74 :: u75 :: u76 :: u77 :: u78 :: u79 :: u80 :: u81 :: u82 :: u83 :: u84 :: u85 :: u86 :: u87 :: u88 :: u89 :: v90 :: v91 :: v92 :: v93 :: v94 :: v95 :: v96 :: v97 :: v98 :: v99 :: v100 :: v101 :: v102 :: v103 :: v104 :: v105 :: v106 :: v107 :: v108 :: v109 :: v110 :: v111 :: v112 :: v113 :: v114 :: v115 :: v116 :: v117 :: v118 :: v119 :: v120 :: v121 :: v122 :: v123 :: v124 :: v125 :: v126 :: v127 :: v128 :: v129 :: v130 :: v131 :: v132 :: v133 :: v134 :: v135 :: v136 :: v137 :: v138 :: v139 :: v140 :: v141 :: v142 :: v143 :: v144 :: v145 :: v146 :: v147 :: v148 :: v149 :: v150 :: v151 :: v152 :: v153 :: v154 :: v155 :: v156 :: v157 :: v158 :: v159 :: v160 :: v161 :: v162 :: v163 :: v164 :: v165 :: v166 :: v167 :: v168 :: v169 :: v170 :: v171 :: v172 :: v173 :: v174 :: v175 :: v176 :: v177 :: v178 :: v179 :: v180 :: v181 :: v182 :: v183 :: v184 :: v185 :: v186 :: v187 :: v188 :: v189 :: v190 :: v191 :: v192 :: v193 :: v194 :: v195 :: u196 :: u197 :: u198 :: u199 :: u200 :: []).toArray, defers := [] } : Act) W9)
    (hK : ∀ (v6 v7 v12 v13 v14 v15 v16 v17 v18 v90 v91 v92 v93 v94 v95 v96 v97 v98 v99 v100 v101 v102 v103 v104 v105 v106 v107 v108 v109 v110 v111 v112 v113 v114 v115 v116 v117 v118 v119 v120 v121 v122 v123 v124 v125 v126 v127 v128 v129 v130 v131 v132 v133 v134 v135 v136 v137 v138 v139 v140 v141 v142 v143 v144 v145 v146 v147 v148 v149 v150 v151 v152 v153 v154 v155 v156 v157 v158 v159 v160 v161 v162 v163 v164 v165 v166 v167 v168 v169 v170 v171 v172 v173 v174 v175 v176 v177 v178 v179 v180 v181 v182 v183 v184 v185 v186 v187 v188 v189 v190 v191 v192 v193 v194 v195 : Value)  (W9 : World), (∀ c, c < nc → Amt (sumE bk.l m c n)) → IR wB W9 v12 ((List.range nc).map fun c => sumE bk.l m c n) → Q .normal ({ tmps := (Value.pointer (some ⟨rb, 0, none⟩) :: u1 :: Value.int .i64 (nc : Int) :: u3 :: u4 :: u5 :: v6 :: v7 :: u8 :: u9 :: u10 :: Value.int .i64 (m : Int) :: v12 :: v13 :: v14 :: v15 :: v16 :: v17 :: v18 :: u19 :: u20 :: u21 :: u22 :: u23 :: u24 :: u25 :: u26 :: u27 :: u28 :: u29 :: u30 :: u31 :: u32 :: u33 :: u34 :: u35 :: u36 :: u37 :: u38 :: u39 :: u40 :: u41 :: u42 :: u43 :: u44 :: u45 :: u46 :: u47 :: u48 :: u49 :: u50 :: u51 :: u52 :: u53 :: u54 :: u55 :: u56 :: u57 :: u58 :: u59 :: u60 :: u61 :: u62 :: u63 :: u64 :: u65 :: u66 :: u67 :: u68 :: u69 :: u70 :: u71 :: u72 :: u73 :: u74 :: u75 :: u76 :: u77 :: u78 :: u79 :: u80 :: u81 :: u82 :: u83 :: u84 :: u85 :: u86 :: u87 :: u88 :: u89 :: v90 :: v91 :: v92 :: v93 :: v94 :: v95 :: v96 :: v97 :: v98 :: v99 :: v100 :: v101 :: v102 :: v103 :: v104 :: v105 :: v106 :: v107 :: v108 :: v109 :: v110 :: v111 :: v112 :: v113 :: v114 :: v115 :: v116 :: v117 :: v118 :: v119 :: v120 :: v121 :: v122 :: v123 :: v124 :: v125 :: v126 :: v127 :: v128 :: v129 :: v130 :: v131 :: v132 :: v133 :: v134 :: v135 :: v136 :: v137 :: v138 :: v139 :: v140 :: v141 :: v142 :: v143 :: v144 :: v145 :: v146 :: v147 :: v148 :: v149 :: v150 :: v151 :: v152 :: v153 :: v154 :: v155 :: v156 :: v157 :: v158 :: v159 :: v160 :: v161 :: v162 :: v163 :: v164 :: v165 :: v166 :: v167 :: v168 :: v169 :: v170 :: v171 :: v172 :: v173 :: v174 :: v175 :: v176 :: v177 :: v178 :: v179 :: v180 :: v181 :: v182 :: v183 :: v184 :: v185 :: v186 :: v187 :: v188 :: v189 :: v190 :: v191 :: v192 :: v193 :: v194 :: v195 :: u196 :: u197 :: u198 :: u199 :: u200 :: []).toArray, defers := [] } : Act) W9) :
    Code.wp Tryz.prog cb4 Q ({ tmps := (Value.pointer (some ⟨rb, 0, none⟩) :: u1 :: Value.int .i64 (nc : Int) :: u3 :: u4 :: u5 :: u6 :: u7 :: u8 :: u9 :: u10 :: Value.int .i64 (m : Int) :: y0 :: Value.int .i64 0 :: u14 :: u15 :: u16 :: u17 :: u18 :: u19 :: u20 :: u21 :: u22 :: u23 :: u24 :: u25 :: u26 :: u27 :: u28 :: u29 :: u30 :: u31 :: u32 :: u33 :: u34 :: u35 :: u36 :: u37 :: u38 :: u39 :: u40 :: u41 :: u42 :: u43 :: u44 :: u45 :: u46 :: u47 :: u48 :: u49 :: u50 :: u51 :: u52 :: u53 :: u54 :: u55 :: u56 :: u57 :: u58 :: u59 :: u60 :: u61 :: u62 :: u63 :: u64 :: u65 :: u66 :: u67 :: u68 :: u69 :: u70 :: u71 :: u72 :: u73 :: u74 :: u75 :: u76 :: u77 :: u78 :: u79 :: u80 :: u81 :: u82 :: u83 :: u84 :: u85 :: u86 :: u87 :: u88 :: u89 :: u90 :: u91 :: u92 :: u93 :: u94 :: u95 :: u96 :: u97 :: u98 :: u99 :: u100 :: u101 :: u102 :: u103 :: u104 :: u105 :: u106 :: u107 :: u108 :: u109 :: u110 :: u111 :: u112 :: u113 :: u114 :: u115 :: u116 :: u117 :: u118 :: u119 :: u120 :: u121 :: u122 :: u123 :: u124 :: u125 :: u126 :: u127 :: u128 :: u129 :: u130 :: u131 :: u132 :: u133 :: u134 :: u135 :: u136 :: u137 :: u138 :: u139 :: u140 :: u141 :: u142 :: u143 :: u144 :: u145 :: u146 :: u147 :: u148 :: u149 :: u150 :: u151 :: u152 :: u153 :: u154 :: u155 :: u156 :: u157 :: u158 :: u159 :: u160 :: u161 :: u162 :: u163 :: u164 :: u165 :: u166 :: u167 :: u168 :: u169 :: u170 :: u171 :: u172 :: u173 :: u174 :: u175 :: u176 :: u177 :: u178 :: u179 :: u180 :: u181 :: u182 :: u183 :: u184 :: u185 :: u186 :: u187 :: u188 :: u189 :: u190 :: u191 :: u192 :: u193 :: u194 :: u195 :: u196 :: u197 :: u198 :: u199 :: u200 :: []).toArray, defers := [] } : Act) w := by
  replace hK := Lib.hid hK
  have h0 : Hid (IR wB w y0 ((List.range 0).map fun c => sumE bk.l m c n)) := Lib.hid hI
  replace hR := Lib.hid hR
  replace hn := Lib.hid hn
  replace hok := Lib.hid hok
  replace hE := Lib.hid hE
  clear hI
  conv => arg 2; whnf
  go_wp2_with fail
  go_loopw [12, 13] (fun u i wr => ∃ c : Nat, c ≤ nc ∧ i = .int .i64 (c : Int) ∧ Hid (∀ c', c' < c → Amt (sumE bk.l m c' n)) ∧ Hid (IR wB wr u ((List.range c).map fun c => sumE bk.l m c n))) (fun _ i _ => nc - (intOf i).toNat)
  case atStart => exact ⟨0, by omega, rfl, Lib.hid fun c' h => by omega, h0⟩
  case round =>
    obtain ⟨c, hc, rfl, hA, hS⟩ := hrel
    by_cases hcn : c < nc
    · have zc : (c : Int) < (nc : Int) := by omega
      have hRr := hR.out.bel hS.out.bl
      have hbig := big_zero wr
      obtain ⟨W1, hW1⟩ : ∃ W1, W1 = wr.alloc (.cells #[.bool false, .slice none 0 0] 79) := ⟨_, rfl⟩
      have hbW : Below wr.heap.size wr W1 := by rw [hW1]; exact (Below.refl _ _).alloc (Nat.le_refl _) _
      rw [← hW1] at hbig
      have hR1 := Lib.hid (hRr.bel hbW)
      have hrb : rb < wr.heap.size := obj_lt hRr.obj
      have hvb : Hid (∀ g, v.ownBlock = some g → g < wr.heap.size) := Lib.hid fun g hg => (World.ownsRow.lt hRr.row g hg).2
      have hW1' : Hid (wr.alloc (.cells #[.bool false, .slice none 0 0] 79) = W1) := Lib.hid hW1.symm
      replace hW1 := True.intro
      replace hbig := Lib.hid hbig
      have hS1 := hS
      clear hRr
      go_upto_block 6 with fail
      rw [hW1'.out]
      refine sumE_any rb wr.heap.size m c n bk P v false none 0 0 W1 hR1.out hrb hvb.out hn.out hn2 hbig.out hok.out _ _ _ _ _ _ _ _ _ _ _ _ _ _ _ _ _ _ _ _ _ _ _ _ _ _ _ _ _ _ _ _ _ _ _ _ _ _ _ _ _ _ _ _ _ _ _ _ _ _ _ _ _ _ _ _ _ _ _ _ _ _ _ _ _ _ _ _ _ _ _ _ _ _ _ _ _ _ _ _ _ _ _ _ _ _ _ _ _ _ _ _ _ _ _ _ _ _ _ _ _ _ _ _ _ _ _ _ _ _ _ _ _ _ _ _ _ _ _ _ _ _ _ _ _ _ _ _ _ _ _ _ _ _ _ _ _ _ _ _ _ _ _ _ _ _ _ _ _ _ _ _ _ _ _ _ _ _ _ _ _ _ _ _ _ _ _ _ _ _ _ _ _ _ _ _ _ _ _ _ _ _ _ _ _ _ _ _ _ _ _ _ _ _ _ _ ?_
      intro v15 v16 v96 v97 v98 v99 v100 v101 v102 v103 v104 v105 v106 v107 v108 v109 v110 v111 v112 v113 v114 v115 v116 v117 v118 v119 v120 v121 v122 v123 v124 v125 v126 v127 v128 v129 v130 v131 v132 v133 v134 v135 v136 v137 v138 v139 v140 v141 v142 v143 v144 v145 v146 v147 v148 v149 v150 v151 v152 v153 v154 v155 v156 v157 v158 v159 v160 v161 v162 v163 v164 v165 v166 v167 v168 v169 v170 v171 v172 v173 v174 v175 v176 v177 v178 v179 v180 v181 v182 v183 W9 hP
      have hb9 : Below wr.heap.size wr W9 := ⟨hP.kp.os.trans hbW.os, hP.kp.tape.trans hbW.tape, hP.kp.output.trans hbW.output, Nat.le_trans hbW.size hP.kp.size, fun j hj => (hP.kp.block j (by have := hbW.size; omega) (by omega)).trans (hbW.block j hj)⟩
      obtain ⟨⟨n9, p9, l9, c9, hB9⟩, -⟩ := hP
      have t0 := hB9.c0
      have t1 := hB9.c1
      have hfit := fit_any _ _ _ W9 hB9.2 (by omega)
      have hsucc : (List.range (c + 1)).map (fun c => sumE bk.l m c n) = ((List.range c).map fun c => sumE bk.l m c n) ++ [sumE bk.l m c n] := by rw [List.range_succ, List.map_append]; rfl
      obtain ⟨T, hT⟩ : ∃ T, T = (List.range c).map fun c => sumE bk.l m c n := ⟨_, rfl⟩
      have hTl : T.length ≤ 8 := by rw [hT]; simp; omega
      rw [← hT] at hsucc hS
      have hS9 := Lib.hid (hS.out.below hb9)
      replace hT := Lib.hid hT
      obtain ⟨S, hSd⟩ : ∃ S, S = sumE bk.l m c n := ⟨_, rfl⟩
      rw [← hSd] at hfit hsucc
      replace hSd := Lib.hid hSd
      replace hsucc := Lib.hid hsucc
      clear hB9 hS hS1
      by_cases hAm : Amt S
      · obtain ⟨f1, f2⟩ := fit_yes hAm
        rw [f1, f2] at hfit
        replace hfit := Lib.hid hfit
        replace hb9 := Lib.hid hb9
        replace hAm := Lib.hid hAm
        clear f1 f2
        have hnx : Hid (∀ (W : World) (hb : Below W9.heap.size W9 W) (o : Obj) (v' : Value) (w' : World), w'.ownsRow 0 2 1 v' (T.length + 1) (T.map (Value.int .i64) ++ [.int .i64 S]) → (W.alloc o).grownBy w' u12.ownBlock → (∀ g', v'.ownBlock = some g' → u12.ownBlock = some g' ∨ W.heap.size + 1 ≤ g') → IR wB w' v' (T ++ [S])) := Lib.hid fun W hb o v' w' h1 h2 h3 => (hS9.out.below hb).app h1 h2 h3
        have hpre := Lib.hid fun (W : World) (hb : Below W9.heap.size W9 W) o => (hS9.out.below hb).pre o
        have hbx := Lib.hid fun (W : World) => box2 S (heap_alloc_new W (.cells #[.int .i64 S] 2))
        go_wp2_with (first
          | (go_at_call 31; (with_reducible refine hfit.out.mono ?_); rintro e w5 ⟨rfl, hb5⟩; replace hb5 := Lib.hid hb5)
          | (at_builtin; refine wpList_app1 50 2 1 8 _ Tryz.underlying50 info2 (by rfl) (by omega) (by omega) rfl _ _ rfl rfl _ _ _ rfl (hpre.out w5 hb5.out _) ⟨w5.heap.size, 0, none⟩ [.int .i64 S] rfl rfl (hbx.out w5) (fun u hu => by obtain rfl := List.mem_singleton.1 hu; rfl) (by omega) ?_))
        intro v' w' hr' hg' hv'
        go_wp2_with fail
        go_roundw
        case rel => exact ⟨c + 1, by omega, by go_num, Lib.hid (fun c' hc' => by
            by_cases e : c' = c
            · subst e; rw [← hSd.out]; exact hAm.out
            · exact hA.out c' (by omega)), Lib.hid (by rw [hsucc.out]; exact hnx.out _ hb5.out _ _ _ hr' hg' hv')⟩
        case measure => simp [intOf]; omega
      · obtain ⟨f1, f2⟩ := fit_no hAm
        rw [f1, f2] at hfit
        replace hfit := Lib.hid hfit
        have hex : Hid (∃ c, c < nc ∧ ¬ Amt (sumE bk.l m c n)) := Lib.hid ⟨c, hcn, by rw [← hSd.out]; exact hAm⟩
        replace hb9 := Lib.hid (hS9.out.bl)
        replace hAm := Lib.hid hAm
        clear f1 f2
        go_wp2_with (go_at_call 31; (with_reducible refine hfit.out.mono ?_); rintro e w5 ⟨rfl, hb5⟩; replace hb5 := Lib.hid hb5)
        exact hE.out _ _ _ _ _ _ _ _ _ _ _ _ _ _ _ _ _ _ _ _ _ _ _ _ _ _ _ _ _ _ _ _ _ _ _ _ _ _ _ _ _ _ _ _ _ _ _ _ _ _ _ _ _ _ _ _ _ _ _ _ _ _ _ _ _ _ _ _ _ _ _ _ _ _ _ _ _ _ _ _ _ _ _ _ _ _ _ _ _ _ _ _ _ _ _ _ _ _ _ _ _ _ _ _ _ _ _ _ _ _ _ _ _ _ hex.out (hb9.out.trans (hb5.out.mono hb9.out.size))
    · obtain rfl : c = nc := by omega
      have zk : ¬ (c : Int) < (c : Int) := by omega
      go_wp2_with fail
      exact hK.out _ _ _ _ _ _ _ _ _ _ _ _ _ _ _ _ _ _ _ _ _ _ _ _ _ _ _ _ _ _ _ _ _ _ _ _ _ _ _ _ _ _ _ _ _ _ _ _ _ _ _ _ _ _ _ _ _ _ _ _ _ _ _ _ _ _ _ _ _ _ _ _ _ _ _ _ _ _ _ _ _ _ _ _ _ _ _ _ _ _ _ _ _ _ _ _ _ _ _ _ _ _ _ _ _ _ _ _ _ _ _ _ _ _ _ _ hA.out hS.out
end Go.Proofs.YthocnlalahknjaaGreat.Dd
