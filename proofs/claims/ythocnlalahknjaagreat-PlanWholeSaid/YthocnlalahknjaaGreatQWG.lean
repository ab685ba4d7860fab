/- PlanWhole: who is behind by all: each struck off. -/
import Derived.Test.YthocnlalahknjaaGreatQWF
namespace Go.Proofs.YthocnlalahknjaaGreat.Dd
open Go.RowKit Go.Maps
set_option linter.unusedVariables false

/-- rows of rows, with what stands in the outer row -/
structure PV (w wr : World) (u : Value) (rows : List (List Int)) (vs : List Value) : Prop where
  e1 : vs.length = rows.length
  e2 : wr.ownsRow 0 50 1 u rows.length vs
  e3 : ∀ i (h : i < rows.length) v, vs[i]? = some v → IR w wr v rows[i] ∧ ∀ g, v.ownBlock = some g → u.ownBlock ≠ some g
  e4 : ∀ (i j : Nat) (v v' : Value), i < j → vs[i]? = some v → vs[j]? = some v' → ∀ g, v.ownBlock = some g → v'.ownBlock ≠ some g
  own : ∀ g, u.ownBlock = some g → w.heap.size ≤ g
  bl : Below w.heap.size w wr
theorem PR.pv {w wr : World} {u : Value} {rows : List (List Int)} (h : PR w wr u rows) : ∃ vs, PV w wr u rows vs ∧ ∀ (i : Nat) (v : Value), vs[i]? = some v → ∀ g, v.ownBlock = some g → g < wr.heap.size := by
  obtain ⟨⟨vs, e1, e2, e3, e4⟩, ho, hbl⟩ := h
  refine ⟨vs, ⟨e1, e2, e3, e4, ho, hbl⟩, fun i v hv g hg => ?_⟩
  obtain ⟨hi, _⟩ := List.getElem?_eq_some_iff.1 hv
  exact (World.ownsRow.lt (e3 i (by omega) v hv).1.row g hg).2
theorem PV.pr {w wr : World} {u : Value} {rows : List (List Int)} {vs : List Value} (h : PV w wr u rows vs) : PR w wr u rows := ⟨⟨vs, h.e1, h.e2, h.e3, h.e4⟩, h.own, h.bl⟩
theorem PV.below {w wr w' : World} {u : Value} {rows : List (List Int)} {vs : List Value} (h : PV w wr u rows vs) (hb : Below wr.heap.size wr w') : PV w w' u rows vs :=
  ⟨h.e1, orow_kept h.e2 fun g hg => hb.block g (World.ownsRow.lt h.e2 g hg).2, fun i hi v hv => ⟨(h.e3 i hi v hv).1.below hb, (h.e3 i hi v hv).2⟩, h.e4, h.own, h.bl.trans (hb.mono h.bl.size)⟩
/-- one number of it, and that number written -/
theorem PV.at {w wr : World} {u : Value} {rows : List (List Int)} {vs : List Value} (h : PV w wr u rows vs) {m c : Nat} (hm : m < rows.length) (hc : c < (rows[m]).length) :
    ∃ g cap g2 cap2, u = .slice (some ⟨g, 0, none⟩) rows.length cap ∧ g < wr.heap.size ∧ w.heap.size ≤ g ∧ wr.cell? ⟨g, m, none⟩ = some (.slice (some ⟨g2, 0, none⟩) (rows[m]).length cap2) ∧ g2 < wr.heap.size ∧ w.heap.size ≤ g2 ∧ g ≠ g2 ∧
      wr.cell? ⟨g2, c, none⟩ = some (.int .i64 ((rows[m]).getD c 0)) ∧ wr.frozen? ⟨g2, c, none⟩ = false ∧ vs[m]? = some (.slice (some ⟨g2, 0, none⟩) (rows[m]).length cap2) ∧ ∀ y, PV w (wr.setCell ⟨g2, c, none⟩ (.int .i64 y)) u (rows.set m ((rows[m]).set c y)) vs := by
  obtain ⟨e1, e2, e3, e4, ho, hbl⟩ := h
  obtain ⟨g, cap, cur, rfl, hg, -⟩ := orow_some e2 (by omega)
  obtain ⟨v, hv⟩ : ∃ v, vs[m]? = some v := ⟨vs[m]'(by omega), List.getElem?_eq_getElem (by omega)⟩
  obtain ⟨q1, q2⟩ := e3 m hm v hv
  obtain ⟨g2, cap2, cur2, rfl, hg2, -⟩ := orow_some q1.row (by omega)
  have hne : g ≠ g2 := fun e => q2 g2 rfl (by rw [e]; rfl)
  refine ⟨g, cap, g2, cap2, rfl, obj_lt hg, ho g rfl, orow_cell e2 rfl hv, obj_lt hg2, q1.own g2 rfl, hne, ?_, orow_free q1.row rfl c, hv, fun y => ?_⟩
  · refine orow_cell q1.row rfl ?_
    rw [List.getElem?_map, List.getElem?_eq_getElem hc, List.getD_eq_getElem?_getD, List.getElem?_eq_getElem hc]; rfl
  · have hother : ∀ k, k ≠ g2 → (wr.setCell ⟨g2, c, none⟩ (.int .i64 y)).heap[k]? = wr.heap[k]? := fun k hk => by
      exact obj_other _ hk
    have hbw : Below w.heap.size w (wr.setCell ⟨g2, c, none⟩ (.int .i64 y)) := ⟨hbl.os, hbl.tape, hbl.output, by have := hbl.size; simpa using this, fun k hk => by rw [hother k (by have := q1.own g2 rfl; omega)]; exact hbl.block k hk⟩
    refine ⟨by simpa using e1, ?_, fun i hi x hx => ?_, e4, ho, hbw⟩
    · rw [List.length_set]
      exact orow_kept e2 fun k hk => hother k (fun e => by rw [e] at hk; injection hk with hk; exact hne hk)
    · have hi2 : i < rows.length := by simpa using hi
      obtain ⟨r1, r2⟩ := e3 i hi2 x hx
      by_cases him : i = m
      · subst him
        rw [hv] at hx
        injection hx with hx
        subst hx
        have er : (rows.set i ((rows[i]).set c y))[i]'hi = (rows[i]).set c y := by simp
        rw [er]
        refine ⟨⟨?_, r1.own, hbw⟩, r2⟩
        have := orow_set r1.row (g := g2) (j := c) rfl (by simpa using hc) (.int .i64 y)
        rw [List.length_set, List.map_set]
        exact this
      · have er : (rows.set m ((rows[m]).set c y))[i]'hi = rows[i] := by rw [List.getElem_set_ne (by omega)]
        rw [er]
        refine ⟨⟨orow_kept r1.row fun k hk => hother k (fun e => ?_), r1.own, hbw⟩, r2⟩
        subst e
        rcases Nat.lt_or_gt_of_ne him with h | h
        · exact e4 i m _ _ h hx hv k hk rfl
        · exact e4 m i _ _ h hv hx k rfl hk
set_option maxHeartbeats 4000000 in
set_option maxRecDepth 100000 in
theorem strike_any {Q : Exit → Act → World → Prop} (u : Value) (St : Nat → List (List Int)) (vs : List Value) (pb : Option Addr) (nb cb : Nat) (out : List Du) (w0 wB w : World)
    (hP : PV w0 w u (St 0) vs) (hvs : ∀ (i : Nat) (v : Value), vs[i]? = some v → ∀ g, v.ownBlock = some g → g < wB.heap.size) (hb : UR wB w (.slice pb nb cb) out) (hn : nb = out.length) (hlen : nb ≤ 4096)
    (hst : ∀ k (hk : k < out.length), ∃ m c : Nat, out[k].m = m ∧ out[k].c = c ∧ ∃ (hm : m < (St k).length) (hc : c < ((St k)[m]).length), ((St k)[m]).length ≤ 8 ∧ (St k).length ≤ 16 ∧ out[k].n = ((St k)[m]).getD c 0 ∧ St (k + 1) = (St k).set m (((St k)[m]).set c 0))
    (u0 u1 u2 u3 u4 u5 u6 u7 u8 u10 u11 u12 u13 u14 u15 u16 u17 u18 u19 u20 u21 u22 u23 u24 u25 u26 u27 u28 u29 u30 u31 u32 u33 u34 u35 u36 u37 u38 u39 u40 u41 u42 u43 u44 u45 u46 u47 u48 u49 u50 u51 u52 u53 u54 u55 u56 u57 u58 u59 u60 u61 u62 u63 u64 u65 u66 u67 u68 u69 u70 u71 u72 u73 u74 u75 u76 u77 u78 u79 u80 u81 u82 u83 u84 u85 u86 u87 u88 u89 u90 u91 u92 u93 u94 u95 u96 u97 u98 u99 u100 u101 u102 u103 u104 u105 u106 u107 u108 u109 u110 u111 u112 u113 u114 u115 u116 u117 u118 u119 u120 u121 u122 u123 u124 u125 u126 u127 u128 u129 u130 u131 u132 u133 u134 u135 u136 u137 u138 u139 u140 u141 u142 u143 u144 u145 u146 u147 u148 u149 u150 u151 u152 u153 u154 u155 u156 u157 u158 u159 u160 u161 u162 u163 u164 u165 u166 u167 u168 u169 u170 u171 u172 u173 u174 u175 u179 u180 u181 u182 u183 u184 u185 u186 u187 u188 u189 u190 u191 u192 u193 u194 u195 u196 u197 u198 u199 u200 u201 u202 u203 u204 u205 u206 u207 u208 u209 u210 u211 u212 u213 u214 u215 u216 u217 u218 u219 u220 u221 u222 u223 u224 u225 u226 u227 u228 u229 u230 u231 u232 u233 u234 u235 u236 u237 u238 : Value)
    (hK : ∀ (v6 v25 v178 v179 v180 v181 v182 v183 v184 v185 v186 v187 v188 v189 v190 v191 v192 v193 v194 v195 v196 v197 v198 v199 v200 v201 v202 v203 v204 v205 v206 v207 v208 v209 v210 v211 v212 v213 v214 v215 v216 v217 v218 v219 v220 : Value)  (W9 : World), PV w0 W9 u (St nb) vs → Q .normal ({ tmps := (u0 :: u1 :: u2 :: u3 :: u4 :: u5 :: v6 :: u7 :: u8 :: u :: u10 :: u11 :: u12 :: u13 :: u14 :: u15 :: u16 :: u17 :: u18 :: u19 :: u20 :: u21 :: u22 :: u23 :: u24 :: v25 :: u26 :: u27 :: u28 :: u29 :: u30 :: u31 :: u32 :: u33 :: u34 :: u35 :: u36 :: u37 :: u38 :: u39 :: u40 :: u41 :: u42 :: u43 :: u44 :: u45 :: u46 :: u47 :: u48 :: u49 :: u50 :: u51 :: u52 :: u53 :: u54 :: u55 :: u56 :: u57 :: u58 :: u59 :: u60 :: u61 :: u62 :: u63 :: u64 :: u65 :: u66 :: u67 :: u68 :: u69 :: u70 :: u71 :: u72 :: u73 :: u74 :: u75 :: u76 :: u77 :: u78 :: u79 :: u80 :: u81 :: u82 :: u83 :: u84 :: u85 :: u86 :: u87 :: u88 :: u89 :: u90 :: u91 :: u92 :: u93 :: u94 :: u95 :: u96 :: u97 :: u98 :: u99 :: u100 :: u101 :: u102 :: u103 :: u104 :: u105 :: u106 :: u107 :: u108 :: u109 :: u110 :: u111 :: u112 :: u113 :: u114 :: u115 :: u116 :: u117 :: u118 :: u119 :: u120 :: u121 :: u122 :: u123 :: u124 :: u125 :: u126 :: u127 :: u128 :: u129 :: u130 :: u131 :: u132 :: u133 :: u134 :: u135 :: u136 :: u137 :: u138 :: u139 :: u140 :: u141 :: u142 :: u143 :: u144 :: u145 :: u146 :: u147 :: u148 :: u149 :: u150 :: u151 :: u152 :: u153 :: u154 :: u155 :: u156 :: u157 :: u158 :: u159 :: u160 :: u161 :: u162 :: u163 :: u164 :: u165 :: u166 :: u167 :: u168 :: u169 :: u170 :: u171 :: u172 :: u173 :: u174 :: u175 :: Value.slice pb nb cb :: Value.int .i64 (nb : Int) :: v178 :: v179 :: v180 :: v181 :: v182 :: v183 :: v184 :: v185 :: v186 :: v187 :: v188 :: v189 :: v190 :: v191 :: v192 :: v193 :: v194 :: v195 :: v196 :: v197 :: v198 :: v199 :: v200 :: v201 :: v202 :: v203 :: v204 :: v205 :: v206 :: v207 :: v208 :: v209 :: v210 :: v211 :: v212 :: v213 :: v214 :: v215 :: v216 :: v217 :: v218 :: v219 :: v220 :: u221 :: u222 :: u223 :: u224 :: u225 :: u226 :: u227 :: u228 :: u229 :: u230 :: u231 :: u232 :: u233 :: u234 :: u235 :: u236 :: u237 :: u238 :: []).toArray, defers := [] } : Act) W9) :
    Code.wp Tryz.prog cw8 Q ({ tmps := (u0 :: u1 :: u2 :: u3 :: u4 :: u5 :: u6 :: u7 :: u8 :: u :: u10 :: u11 :: u12 :: u13 :: u14 :: u15 :: u16 :: u17 :: u18 :: u19 :: u20 :: u21 :: u22 :: u23 :: u24 :: u25 :: u26 :: u27 :: u28 :: u29 :: u30 :: u31 :: u32 :: u33 :: u34 :: u35 :: u36 :: u37 :: u38 :: u39 :: u40 :: u41 :: u42 :: u43 :: u44 :: u45 :: u46 :: u47 :: u48 :: u49 :: u50 :: u51 :: u52 :: u53 :: u54 :: u55 :: u56 :: u57 :: u58 :: u59 :: u60 :: u61 :: u62 :: u63 :: u64 :: u65 :: u66 :: u67 :: u68 :: u69 :: u70 :: u71 :: u72 :: u73 :: u74 :: u75 :: u76 :: u77 :: u78 :: u79 :: u80 :: u81 :: u82 :: u83 :: u84 :: u85 :: u86 :: u87 :: u88 :: u89 :: u90 :: u91 :: u92 :: u93 :: u94 :: u95 :: u96 :: u97 :: u98 :: u99 :: u100 :: u101 :: u102 :: u103 :: u104 :: u105 :: u106 :: u107 :: u108 :: u109 :: u110 :: u111 :: u112 :: u113 :: u114 :: u115 :: u116 :: u117 :: u118 :: u119 :: u120 :: u121 :: u122 :: u123 :: u124 :: u125 :: u126 :: u127 :: u128 :: u129 :: u130 :: u131 :: u132 :: u133 :: u134 :: u135 :: u136 :: u137 :: u138 :: u139 :: u140 :: u141 :: u142 :: u143 :: u144 :: u145 :: u146 :: u147 :: u148 :: u149 :: u150 :: u151 :: u152 :: u153 :: u154 :: u155 :: u156 :: u157 :: u158 :: u159 :: u160 :: u161 :: u162 :: u163 :: u164 :: u165 :: u166 :: u167 :: u168 :: u169 :: u170 :: u171 :: u172 :: u173 :: u174 :: u175 :: Value.slice pb nb cb :: Value.int .i64 (nb : Int) :: Value.int .i64 0 :: u179 :: u180 :: u181 :: u182 :: u183 :: u184 :: u185 :: u186 :: u187 :: u188 :: u189 :: u190 :: u191 :: u192 :: u193 :: u194 :: u195 :: u196 :: u197 :: u198 :: u199 :: u200 :: u201 :: u202 :: u203 :: u204 :: u205 :: u206 :: u207 :: u208 :: u209 :: u210 :: u211 :: u212 :: u213 :: u214 :: u215 :: u216 :: u217 :: u218 :: u219 :: u220 :: u221 :: u222 :: u223 :: u224 :: u225 :: u226 :: u227 :: u228 :: u229 :: u230 :: u231 :: u232 :: u233 :: u234 :: u235 :: u236 :: u237 :: u238 :: []).toArray, defers := [] } : Act) w := by
  replace hK := Lib.hid hK
  have h0 : Hid (PV w0 w u (St 0) vs ∧ w.ownsRow 0 39 4 (.slice pb nb cb) out.length (cellsU out)) := Lib.hid ⟨hP, hb.row⟩
  have hown := Lib.hid hb.own
  replace hn := Lib.hid hn
  replace hst := Lib.hid hst
  replace hvs := Lib.hid hvs
  clear hP hb
  conv => arg 2; whnf
  go_wp2_with fail
  go_loopw [178] (fun i wr => ∃ k : Nat, k ≤ nb ∧ i = .int .i64 (k : Int) ∧ Hid (PV w0 wr u (St k) vs ∧ wr.ownsRow 0 39 4 (.slice pb nb cb) out.length (cellsU out))) (fun i _ => nb - (intOf i).toNat)
  case atStart => exact ⟨0, by omega, rfl, h0⟩
  case round =>
    obtain ⟨k, hk, rfl, hS⟩ := hrel
    by_cases hkn : k < nb
    · have hkl : k < out.length := by have := hn.out; omega
      obtain ⟨hV, hU⟩ := hS.out
      obtain ⟨gb, cpb, curb, hsl, hgb, -, -, -, hcu⟩ := orow_some hU (by omega)
      obtain ⟨rfl, -, rfl⟩ : pb = some ⟨gb, 0, none⟩ ∧ nb = out.length ∧ cb = cpb := by injection hsl with x1 x2 x3; exact ⟨x1, x2, x3⟩
      have hcell : ∀ j v, out[k].cs[j]? = some v → wr.cell? ⟨gb, k * 4 + j, none⟩ = some v := fun j v hv => by
        have hj : j < 4 := by have := (List.getElem?_eq_some_iff.1 hv).1; rw [Du.cs_len] at this; exact this
        exact orow_cell hU rfl (by rw [cellsU_at hkl j hj]; exact hv)
      have e0 := hcell 0 _ rfl
      have e1 := hcell 1 _ rfl
      have e2 := hcell 2 _ rfl
      have e3 := hcell 3 _ rfl
      have hgbl : gb < wr.heap.size := obj_lt hgb
      rw [Nat.add_zero] at e0
      obtain ⟨m, c, d1, d2, hm, hc, h8, h16, d3, hsucc⟩ := hst.out k hkl
      obtain ⟨W1, hW1⟩ : ∃ W1, W1 = wr.alloc (.cells out[k].cs.toArray 39) := ⟨_, rfl⟩
      have hbW : Below wr.heap.size wr W1 := by rw [hW1]; exact (Below.refl _ _).alloc (Nat.le_refl _) _
      have hV1 := hV.below hbW
      obtain ⟨g, cap, g2, cap2, rfl, hg, hg0, hc1, hg2, hg20, hne, hc2, hfz, hv2, hset⟩ := hV1.at hm hc
      have hg2B : g2 < wB.heap.size := hvs.out m _ hv2 g2 rfl
      have hgbB : wB.heap.size ≤ gb := hown.out gb rfl
      have hfin : Hid (∀ W, Below W1.heap.size W1 W → PV w0 (W.setCell ⟨g2, c, none⟩ (.int .i64 0)) (.slice (some ⟨g, 0, none⟩) (St k).length cap) (St (k + 1)) vs ∧ (W.setCell ⟨g2, c, none⟩ (.int .i64 0)).ownsRow 0 39 4 (.slice (some ⟨gb, 0, none⟩) nb cb) out.length (cellsU out)) := Lib.hid fun W hbw => by
        obtain ⟨g', cap', g2', cap2', -, -, -, -, -, -, -, -, -, hv2', hset'⟩ := (hV1.below hbw).at hm hc
        rw [hv2] at hv2'
        injection hv2' with hv2'
        injection hv2' with q1 q2 q3
        injection q1 with q1
        injection q1 with q1
        subst q1
        refine ⟨by rw [hsucc]; exact hset' 0, orow_kept hU fun q hq => ?_⟩
        have hq2 : q = gb := by simpa [Value.ownBlock] using hq.symm
        subst hq2
        rw [obj_other _ (by simp; omega), hbw.block _ (by have := hbW.size; omega), hbW.block _ hgbl]
      obtain ⟨M, hM⟩ : ∃ M, M = (St k).length := ⟨_, rfl⟩
      obtain ⟨K, hK8⟩ : ∃ K, K = ((St k)[m]).length := ⟨_, rfl⟩
      rw [← hM] at hfin ⊢ hm h16
      rw [← hK8] at hc1 hc h8
      generalize ((St k)[m]).getD c 0 = x at *
      clear hsucc hset hV1 hS hV hU hcell hsl hgb hcu hv2
      generalize out[k] = d at *
      obtain ⟨y1, y2, y3, y4⟩ := d
      simp only at d1 d2 d3
      subst d1 d2 d3
      have zk : (k : Int) < (nb : Int) := by omega
      have zm : (m : Int) < (M : Int) := by omega
      have zc : (c : Int) < (K : Int) := by omega
      have zb1 : decide (M ≤ m) = false := decide_eq_false (by omega)
      have zb2 : decide ((M : Int) ≤ (m : Int)) = false := decide_eq_false (by omega)
      have zb3 : decide (K ≤ c) = false := decide_eq_false (by omega)
      have zb4 : decide ((K : Int) ≤ (c : Int)) = false := decide_eq_false (by omega)
      have hbx := heap_alloc_new wr (.cells #[.int .i64 (m : Int), .int .i64 (c : Int), .int .i64 y3, .int .i64 y4] 39)
      have hW1' : Hid (wr.alloc (.cells #[.int .i64 (m : Int), .int .i64 (c : Int), .int .i64 y3, .int .i64 y4] 39) = W1) := Lib.hid hW1.symm
      rw [hW1'.out] at hbx
      have b0 := obj_cell hbx (i := 0) rfl
      have b1 := obj_cell hbx (i := 1) rfl
      have b2 := obj_cell hbx (i := 2) rfl
      have b3 := obj_cell hbx (i := 3) rfl
      have hgN : wr.heap.size < W1.heap.size := obj_lt hbx
      replace hbx := Lib.hid hbx
      replace hM := Lib.hid hM
      replace hK8 := Lib.hid hK8
      replace hW1 := True.intro
      replace hbW := Lib.hid hbW
      clear hvs
      go_upto_region 44 with fail
      rw [hW1'.out]
      clear e0 e1 e2 e3 hgbl
      go_quiet (fail)
      go_wp2_with fail
      go_region
      go_wp2_with fail
      go_roundw
      case rel => exact ⟨k + 1, by omega, by go_num, Lib.hid (hfin.out _ ⟨rfl, rfl, rfl, Nat.le_refl _, fun _ _ => rfl⟩)⟩
      case measure => simp [intOf]; omega
    · obtain rfl : k = nb := by omega
      have zk : ¬ (k : Int) < (k : Int) := by omega
      go_wp2_with fail
      exact hK.out _ _ _ _ _ _ _ _ _ _ _ _ _ _ _ _ _ _ _ _ _ _ _ _ _ _ _ _ _ _ _ _ _ _ _ _ _ _ _ _ _ _ _ _ _ _ hS.out.1
end Go.Proofs.YthocnlalahknjaaGreat.Dd
