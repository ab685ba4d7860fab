/- PlanWhole's walk. -/
import Derived.Test.YthocnlalahknjaaGreatQWK
import Derived.Test.YthocnlalahknjaaGreatQWL
import Derived.Test.YthocnlalahknjaaGreatQWH
namespace Go.Proofs.YthocnlalahknjaaGreat.Dd
open Go.RowKit Go.Maps
set_option linter.unusedVariables false

theorem nseq_amt {w : World} {v : Value} {rows : List (List Int)} (h : NSeq w v rows) : ∀ r ∈ rows, ∀ x ∈ r, Amt x := by
  obtain ⟨a, cap, rfl, hrd⟩ := h
  intro r hr x hx
  obtain ⟨i, hi, rfl⟩ := List.mem_iff_getElem.1 hr
  obtain ⟨b, off, rfl, hlt, hall⟩ := hrd.resolve_left (by rintro rfl; simp at hi)
  obtain ⟨p, c2, _, _, hz, _⟩ := hall i hi
  obtain ⟨j, hj, rfl⟩ := List.mem_iff_getElem.1 hx
  have := hz j
  rwa [List.getD_eq_getElem?_getD, List.getElem?_eq_getElem hj] at this
theorem rowsP_amt {zs : List Int} {rows : List (List Int)} {L : List Du} (h : Sch zs rows L) : ∀ r ∈ rowsP rows rows.length, ∀ x ∈ r, Amt x := fun r hr x hx => by
  unfold rowsP at hr
  obtain ⟨m, hm, rfl⟩ := List.mem_map.1 hr
  unfold rowP at hx
  obtain ⟨c, hc, rfl⟩ := List.mem_map.1 hx
  rw [List.mem_range] at hm hc
  obtain ⟨r, hr, _, hme⟩ := entry_mem hm hc
  have := h.hx r hr _ hme
  have := h.hz r hr _ hme
  unfold Amt at *
  omega
theorem rowsP_8 {zs : List Int} {rows : List (List Int)} {L : List Du} (h : Sch zs rows L) : ∀ r ∈ rowsP rows rows.length, r.length ≤ 8 := fun r hr => by
  unfold rowsP at hr
  obtain ⟨m, hm, rfl⟩ := List.mem_map.1 hr
  rw [List.mem_range] at hm
  rw [rowP_len, List.getD_eq_getElem?_getD, List.getElem?_eq_getElem hm]
  exact h.h8 _ (List.getElem_mem hm)
theorem Sch.no_wrong {zs : List Int} {rows : List (List Int)} {L : List Du} (h : Sch zs rows L) : L.any Du.wrong = false := by
  rw [List.any_eq_false]
  intro d hd
  obtain ⟨m, c, _, _, a3, a4, _, h1, _⟩ := h.mem hd
  unfold Du.wrong
  rw [a3, a4]
  simp only [Bool.or_eq_true, decide_eq_true_eq]
  omega
theorem Sch.duIn {zs : List Int} {rows : List (List Int)} {L : List Du} (h : Sch zs rows L) (hzs : ∀ i, Amt (zs.getD i 0)) : ∀ d ∈ L, DuIn d := fun d hd => by
  obtain ⟨m, c, a1, a2, a3, a4, _, h1, h2, ht⟩ := h.mem hd
  obtain ⟨i, hi, e⟩ := List.mem_iff_getElem.1 ht
  have hz := hzs i
  rw [List.getD_eq_getElem?_getD, List.getElem?_eq_getElem hi] at hz
  have hz2 : Amt zs[i] := hz
  rw [e] at hz2
  obtain ⟨r, hr, e2, _⟩ := entry_mem a1 a2
  have h8 := h.h8 r hr
  rw [e2] at a2
  have := h.m16
  unfold Amt at hz2
  refine ⟨?_, ?_, ?_, ?_⟩ <;> unfold In64
  · rw [a3]; omega
  · rw [a4]; omega
  · omega
  · omega

set_option maxHeartbeats 8000000 in
set_option maxRecDepth 100000 in
theorem planWhole_any (pn : Option Addr) (M cn : Nat) (rows : List (List Int)) (pz : Option Addr) (nz cz : Nat) (zs : List Int) (now : Int) (w : World)
    (hN : rows.length = M ∧ NSeq w (.slice pn M cn) rows ∧ (∀ r ∈ rows, r.length ≤ 4611686018427387904) ∧ M ≤ 4611686018427387904) (hZ : Seq64 w pz nz zs) :
    Calls Tryz.prog 6 #[.slice pn M cn, .slice pz nz cz, .int .i64 now] w fun e w' => e = .returned (.bool true) ∧ Below w.heap.size w w' := by
  obtain ⟨hM, hN, hr0, hM0⟩ := hN
  have hsch := fun (W : World) (hb : Below w.heap.size w W) => schedule_any (.slice pn M cn) rows pz nz cz zs W (hN.kept hb) (hZ.kept hb) (by omega) hr0
  have hlarge := fun (W : World) (hb : Below w.heap.size w W) => (large_any (.slice pn M cn) rows W (hN.kept hb) (by omega) hr0).mono fun e w' h => (⟨h.1, h.2.symm⟩ : e = .returned (.bool (largeN rows)) ∧ W = w')
  have haw := awake_any w
  replace hsch := Lib.hid hsch
  replace hlarge := Lib.hid hlarge
  replace haw := Lib.hid haw
  replace hN := Lib.hid hN
  replace hZ := Lib.hid hZ
  replace hM := Lib.hid hM
  replace hr0 := Lib.hid hr0
  obtain ⟨lg, hlg⟩ : ∃ lg, lg = largeN rows := ⟨_, rfl⟩
  rw [← hlg] at hlarge
  replace hlg := Lib.hid hlg
  cases lg with
  | true =>
    go_enter Tryz.func6, Tryz.ntmps6
    go_wp2_with (first
      | (go_at_call 7; (with_reducible refine haw.out.mono ?_); rintro e w1 ⟨rfl, hb1⟩; replace hb1 := Lib.hid hb1)
      | (go_at_call 12; (with_reducible refine (hlarge.out w1 hb1.out).mono ?_); rintro e w2 ⟨rfl, rfl⟩))
    go_ret
    exact ⟨rfl, hb1.out⟩
  | false =>
  by_cases h20 : 20 < nz
  · have z : (20 : Int) < (nz : Int) := by omega
    go_enter Tryz.func6, Tryz.ntmps6
    go_wp2_with (first
      | (go_at_call 7; (with_reducible refine haw.out.mono ?_); rintro e w1 ⟨rfl, hb1⟩; replace hb1 := Lib.hid hb1)
      | (go_at_call 12; (with_reducible refine (hlarge.out w1 hb1.out).mono ?_); rintro e w2 ⟨rfl, rfl⟩))
    go_ret
    exact ⟨rfl, hb1.out⟩
  have z : ¬ (20 : Int) < (nz : Int) := by omega
  obtain ⟨-, hzz, -, hzc⟩ := hZ.out
  go_enter Tryz.func6, Tryz.ntmps6
  go_upto_block 0 with (first
    | (go_at_call 7; (with_reducible refine haw.out.mono ?_); rintro e w1 ⟨rfl, hb1⟩; replace hb1 := Lib.hid hb1)
    | (go_at_call 12; (with_reducible refine (hlarge.out w1 hb1.out).mono ?_); rintro e w2 ⟨rfl, rfl⟩)
    | (go_at_call 13; (with_reducible refine (hsch.out w1 hb1.out).mono ?_); rintro e w2 ⟨hb2, hO⟩; replace hb2 : Hid (Below w.heap.size w w2) := Lib.hid (hb1.out.trans (hb2.mono hb1.out.size)); rcases hO with ⟨_, rfl⟩ | ⟨_, _, rfl⟩ | ⟨_, _, _, rfl⟩ | ⟨hD, hMa, hOv, u, L, rfl, hp, ho, hU⟩)
    | fail)
  · go_ret
    exact ⟨rfl, hb2.out⟩
  · go_ret
    exact ⟨rfl, hb2.out⟩
  · go_ret
    exact ⟨rfl, hb2.out⟩
  obtain ⟨hr16, h8⟩ := many_iff hMa
  have hS : Hid (Sch zs rows L) := Lib.hid ⟨hD, hp, ho, over_iff hOv (nseq_amt hN.out), nseq_amt hN.out, hr16, h8⟩
  have h1z : 1 ≤ nz := by have := (mayD_rise hD).1; have := hZ.out.1; omega
  have hzl : zs.length = nz := hZ.out.1
  clear hD hMa hOv hp ho hr16 h8
  obtain ⟨p, cap, hu, -⟩ := id hU
  subst hu
  obtain ⟨n, hn⟩ : ∃ n, n = L.length := ⟨_, rfl⟩
  rw [← hn] at hU ⊢
  have hnl : n ≤ 4096 := by have := hS.out.len; omega
  have hM16 : M ≤ 16 := by have := hS.out.m16; have := hM.out; omega
  replace hn := Lib.hid hn
  replace hU := Lib.hid hU
  replace hzl := Lib.hid hzl
  replace hzz := Lib.hid hzz
  replace hzc := Lib.hid hzc
  refine mat_any pn M cn rows p n cap L (fun m c => amL L m c) w2 (hN.out.kept hb2.out) hM.out.symm hM16 hS.out.h8 hU.out hn.out hnl hS.out.hx (fun m c hm hc => hS.out.fil (by have := hM.out; omega) hc) _ _ _ _ _ _ _ _ _ _ _ _ _ _ _ _ _ _ _ _ _ _ _ _ _ _ _ _ _ _ _ _ _ _ _ _ _ _ _ _ _ _ _ _ _ _ _ _ _ _ _ _ _ _ _ _ _ _ _ _ _ _ _ _ _ _ _ _ _ _ _ _ _ _ _ _ _ _ _ _ _ _ _ _ _ _ _ _ _ _ _ _ _ _ _ _ _ _ _ _ _ _ _ _ _ _ _ _ _ _ _ _ _ _ _ _ _ _ _ _ _ _ _ _ _ _ _ _ _ _ _ _ _ _ _ _ _ _ _ _ _ _ _ _ _ _ _ _ _ _ _ _ _ _ _ _ _ _ _ _ _ _ _ _ _ _ _ _ _ _ _ _ _ _ _ _ _ _ _ _ _ _ _ _ _ _ _ _ _ _ _ _ _ _ _ _ _ _ _ _ _ _ _ _ _ _ _ _ _ _ _ _ _ _ _ _ _ _ _ _ _ _ _ _ _ _ _ _ _ _ _ _ _ _ ?_
  intro v6 v9 v10 v11 v12 v13 v14 v16 v17 v18 v51 v52 v53 v54 v55 v56 v57 v58 v59 v60 v61 v62 v63 v64 v65 v66 v67 v68 v69 v70 v71 v72 v73 v74 v75 v76 v77 v78 v79 v80 v81 v82 v83 v84 v85 v86 v87 v88 v89 v90 v91 v92 v93 v94 v95 v96 v97 v98 v99 v100 v101 v102 v103 v104 v105 v106 v107 v108 v109 v110 v111 v112 v113 v114 v115 v116 v117 v118 v119 v120 v121 v122 v123 v124 v125 v126 v127 v128 W3 hP3
  rw [← hM.out] at hP3
  obtain ⟨pu, cu, hv9⟩ : ∃ pu cu, v9 = .slice pu rows.length cu := by
    obtain ⟨⟨vs, q1, q2, -⟩, -, -⟩ := hP3
    obtain ⟨pu, cu, e, -⟩ := orow_shape q2
    rw [rowsP_len] at e
    exact ⟨pu, cu, e⟩
  rw [hM.out] at hv9
  subst hv9
  replace hP3 := Lib.hid hP3
  go_upto_block 6 with fail
  refine rise_any p n cap L W3 (hU.out.kept hP3.out.bl) hn.out hnl hS.out.rise _ _ _ _ _ _ _ _ _ _ _ _ _ _ _ _ _ _ _ _ _ _ _ _ _ _ _ _ _ _ _ _ _ _ _ _ _ _ _ _ _ _ _ _ _ _ _ _ _ _ _ _ _ _ _ _ _ _ _ _ _ _ _ _ _ _ _ _ _ _ _ _ _ _ _ _ _ _ _ _ _ _ _ _ _ _ _ _ _ _ _ _ _ _ _ _ _ _ _ _ _ _ _ _ _ _ _ _ _ _ _ _ _ _ _ _ _ _ _ _ _ _ _ _ _ _ _ _ _ _ _ _ _ _ _ _ _ _ _ _ _ _ _ _ _ _ _ _ _ _ _ _ _ _ _ _ _ _ _ _ _ _ _ _ _ _ _ _ _ _ _ _ _ _ _ _ _ _ _ _ _ _ _ _ _ _ _ _ _ _ _ _ _ _ _ _ _ _ _ _ _ _ _ _ _ _ _ _ _ _ _ _ _ _ _ _ _ _ _ _ _ _ _ _ _ _ _ _ _ _ _ _ _ _ _ _ _ ?_
  intro v6 v19 v129 v130 v131 v132 v133 v134 v135 v136 v137 v138 v139 v140 v141 v142 v143 v144 v145 v146 W4 hb4
  have hP4 := Lib.hid (hP3.out.below hb4)
  have hU4 := Lib.hid ((hU.out.kept hP3.out.bl).kept hb4)
  clear hb4
  obtain ⟨last, hlast⟩ : ∃ last, last = zs.getD (nz - 1) 0 := ⟨_, rfl⟩
  obtain ⟨q, hq⟩ : ∃ q, nz = q + 1 := ⟨nz - 1, by omega⟩
  have zq : IntKind.i64.wrap ((nz : Int) - 1) = (q : Int) := by have := hZ.out.2.2.1; rw [IntKind.wrap_i64]; omega
  have zq2 : (q : Int) < (nz : Int) := by omega
  obtain ⟨bz, oz, rfl, hltz, hallz⟩ := hzc.out.resolve_left (by omega)
  have hcz : Hid (w.cell? ⟨bz, oz + q, none⟩ = some (.int .i64 last)) := Lib.hid (by rw [hallz q (by omega), hlast, hq]; rfl)
  have hbw4 : Hid (Below w.heap.size w W4) := Lib.hid (hb2.out.trans (hP4.out.bl.mono hb2.out.size))
  have hin : ∀ d ∈ L, DuIn d := hS.out.duIn hzz.out
  have hbeh1 : Hid (Calls Tryz.prog 15 #[.slice p n cap, .slice pu M cu, .int .i64 now] W4 fun e w' => ∃ a cp, e = .returned (.tuple #[.slice a 0 cp, .int .i64 0]) ∧ Below W4.heap.size W4 w') := by
    have hseq := hP4.out.seq (by exact rowsP_amt hS.out) (fun r hr => by have := rowsP_8 hS.out r hr; omega)
    refine Lib.hid ((behind_any _ _ L _ now W4 hU4.out (by have := hn.out; omega) hin hseq (by rw [rowsP_len]; have := hM.out; omega)).mono fun e w' ⟨hb, hB⟩ => ?_)
    rcases hB with ⟨hB, _⟩ | ⟨_, hB, _⟩ | ⟨_, _, L', hp', ho', hB⟩
    · have := hn.out; omega
    · rw [hS.out.no_wrong] at hB; cases hB
    · have hpaid := hS.out.paid hp' ho'
      rw [hpaid] at hB
      rcases hB with ⟨out, u, e1, rfl, hUR⟩ | ⟨e1, _⟩
      · injection e1 with e1
        subst e1
        obtain ⟨a, cp, rfl, -⟩ := orow_shape hUR.row
        exact ⟨a, cp, rfl, hb⟩
      · cases e1
  have hbeh2 : Hid (∀ W, Below W4.heap.size W4 W → Calls Tryz.prog 15 #[.slice p n cap, .slice none 0 0, .int .i64 last] W fun e w' => ∃ pb nb cb out St, e = .returned (.tuple #[.slice pb nb cb, .int .i64 0]) ∧ UR W w' (.slice pb nb cb) out ∧ nb = out.length ∧ nb ≤ 4096 ∧ Strk rows out St) := Lib.hid fun W hbW => by
    refine ((behind_any _ _ L [] last W (hU4.out.kept hbW) (by have := hn.out; omega) hin ⟨none, 0, rfl, .inl rfl⟩ (by simp)).mono fun e w' ⟨hb, hB⟩ => ?_)
    rcases hB with ⟨hB, _⟩ | ⟨_, hB, _⟩ | ⟨_, _, L', hp', ho', hB⟩
    · have := hn.out; omega
    · rw [hS.out.no_wrong] at hB; cases hB
    · rw [hlast, ← hzl.out] at hp'
      obtain ⟨out, St, e2, hl, hSt⟩ := hS.out.none_paid hp' ho'
      rw [hzl.out, ← hlast] at e2
      rw [e2] at hB
      rcases hB with ⟨out2, u, e1, rfl, hUR⟩ | ⟨e1, _⟩
      · injection e1 with e1
        subst e1
        obtain ⟨a, cp, rfl, -⟩ := orow_shape hUR.row
        exact ⟨a, _, cp, _, St, rfl, hUR, rfl, hl, hSt⟩
      · cases e1
  replace hlast := Lib.hid hlast
  replace hq := Lib.hid hq
  replace hin := Lib.hid hin
  clear hallz
  go_upto_block 8 with (first
    | (go_at_call 15; (with_reducible refine hbeh1.out.mono ?_); rintro e W5 ⟨a5, cp5, rfl, hb5⟩; have hcz5 := ((hbw4.out.trans (hb5.mono hbw4.out.size)).cell (p := ⟨bz, oz + q, none⟩) hltz).trans hcz.out; replace hb5 := Lib.hid hb5)
    | (go_at_call 15; (with_reducible refine (hbeh2.out W5 hb5.out).mono ?_); rintro e W6 ⟨pb, nb, cb, out, St, rfl, hUR, hnb, hnl2, hSt⟩; replace hUR := Lib.hid hUR; replace hnb := Lib.hid hnb; replace hSt := Lib.hid hSt)
    | fail)
  have hP5 := hP4.out.below hb5.out
  obtain ⟨vs, hV5, hvs⟩ := hP5.pv
  have hV6 := hV5.below (hUR.out.bl)
  rw [← hSt.out.s0] at hV6
  refine strike_any (.slice pu M cu) St vs pb nb cb out w2 W5 W6 hV6 hvs hUR.out hnb.out hnl2 hSt.out.st _ _ _ _ _ _ _ _ _ _ _ _ _ _ _ _ _ _ _ _ _ _ _ _ _ _ _ _ _ _ _ _ _ _ _ _ _ _ _ _ _ _ _ _ _ _ _ _ _ _ _ _ _ _ _ _ _ _ _ _ _ _ _ _ _ _ _ _ _ _ _ _ _ _ _ _ _ _ _ _ _ _ _ _ _ _ _ _ _ _ _ _ _ _ _ _ _ _ _ _ _ _ _ _ _ _ _ _ _ _ _ _ _ _ _ _ _ _ _ _ _ _ _ _ _ _ _ _ _ _ _ _ _ _ _ _ _ _ _ _ _ _ _ _ _ _ _ _ _ _ _ _ _ _ _ _ _ _ _ _ _ _ _ _ _ _ _ _ _ _ _ _ _ _ _ _ _ _ _ _ _ _ _ _ _ _ _ _ _ _ _ _ _ _ _ _ _ _ _ _ _ _ _ _ _ _ _ _ _ _ _ _ _ _ _ _ _ _ _ _ _ _ _ _ _ _ _ _ _ _ _ _ _ _ _ ?_
  intro v6 v25 v178 v179 v180 v181 v182 v183 v184 v185 v186 v187 v188 v189 v190 v191 v192 v193 v194 v195 v196 v197 v198 v199 v200 v201 v202 v203 v204 v205 v206 v207 v208 v209 v210 v211 v212 v213 v214 v215 v216 v217 v218 v219 v220 W7 hV7
  rw [hnb.out] at hV7
  have hz7 : ∀ r ∈ St out.length, ∀ x ∈ r, Amt x := fun r hr x hx => by rw [hSt.out.zero r hr x hx]; unfold Amt; omega
  have hN7 := Lib.hid (hV7.pr.seq hz7 (fun r hr => by have := hSt.out.r8 r hr; omega))
  have hb7 := Lib.hid (hb2.out.trans (hV7.bl.mono hb2.out.size))
  clear hV7 hV6 hV5 hvs hz7 hP5
  go_upto_block 10 with fail
  refine zeros_any pu M cu (St out.length) W7 hN7.out (by rw [hSt.out.len, hM.out]) hM16 hSt.out.r8 hSt.out.zero _ _ _ _ _ _ _ _ _ _ _ _ _ _ _ _ _ _ _ _ _ _ _ _ _ _ _ _ _ _ _ _ _ _ _ _ _ _ _ _ _ _ _ _ _ _ _ _ _ _ _ _ _ _ _ _ _ _ _ _ _ _ _ _ _ _ _ _ _ _ _ _ _ _ _ _ _ _ _ _ _ _ _ _ _ _ _ _ _ _ _ _ _ _ _ _ _ _ _ _ _ _ _ _ _ _ _ _ _ _ _ _ _ _ _ _ _ _ _ _ _ _ _ _ _ _ _ _ _ _ _ _ _ _ _ _ _ _ _ _ _ _ _ _ _ _ _ _ _ _ _ _ _ _ _ _ _ _ _ _ _ _ _ _ _ _ _ _ _ _ _ _ _ _ _ _ _ _ _ _ _ _ _ _ _ _ _ _ _ _ _ _ _ _ _ _ _ _ _ _ _ _ _ _ _ _ _ _ _ _ _ _ _ _ _ _ _ _ _ _ _ _ _ _ _ _ _ _ _ _ _ _ _ _ _ _ ?_
  rintro v6 v26 v28 v223 v224 v225 v226 v227 v228 v229 v230 v231 v232 v233 v234 v235 v236 v237 v238 W8 rfl
  go_wp2_with fail
  go_ret
  exact ⟨rfl, hb7.out⟩
end Go.Proofs.YthocnlalahknjaaGreat.Dd
