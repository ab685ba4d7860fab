/- The reference's Net: all rows.
  The reference's Net. -/
import Derived.Test.YthocnlalahknjaaGreatQND
namespace Go.Proofs.YthocnlalahknjaaGreat.Dd
open Go.RowKit
set_option linter.unusedVariables false
def rowE (l : List En) (nc m : Nat) : List Int := (List.range nc).map fun c => sumE l m c l.length
theorem rowE_len (l : List En) (nc m : Nat) : (rowE l nc m).length = nc := by simp [rowE]
set_option maxHeartbeats 4000000 in
set_option maxRecDepth 100000 in
theorem nmat_any {Q : Exit → Act → World → Prop} (rb nm nc : Nat) (bk : Bk) (P : Nat → Prop) (v y0 : Value) (wB w : World)
    (hR : RBv P wB rb bk v) (hn2 : bk.l.length ≤ 200) (hnm : nm ≤ 16) (hnc : nc ≤ 8) (hok : EnsOk bk.l) (hI : PR wB w y0 [])
    (u3 u4 u5 u6 u7 u8 u9 u12 u13 u14 u15 u16 u17 u18 u19 u20 u21 u22 u23 u24 u25 u26 u27 u28 u29 u30 u31 u32 u33 u34 u35 u36 u37 u38 u39 u40 u41 u42 u43 u44 u45 u46 u47 u48 u49 u50 u51 u52 u53 u54 u55 u56 u57 u58 u59 u60 u61 u62 u63 u64 u65 u66 u67 u68 u69 u70 u71 u72 u73 u74 u75 u76 u77 u78 u79 u80 u81 u82 u83 u84 u85 u86 u87 u88 u89 u90 u91 u92 u93 u94 u95 u96 u97 u98 u99 u100 u101 u102 u103 u104 u105 u106 u107 u108 u109 u110 u111 u112 u113 u114 u115 u116 u117 u118 u119 u120 u121 u122 u123 u124 u125 u126 u127 u128 u129 u130 u131 u132 u133 u134 u135 u136 u137 u138 u139 u140 u141 u142 u143 u144 u145 u146 u147 u148 u149 u150 u151 u152 u153 u154 u155 u156 u157 u158 u159 u160 u161 u162 u163 u164 u165 u166 u167 u168 u169 u170 u171 u172 u173 u174 u175 u176 u177 u178 u179 u180 u181 u182 u183 u184 u185 u186 u187 u188 u189 u190 u191 u192 u193 u194 u195 u196 u197 u198 u199 u200 : Value)
    (hE : ∀ (v10 v11 v12 v13 v14 v15 v16 v17 v18 v84 v85 v86 v87 v88 v89 v90 v91 v92 v93 v94 v95 v96 v97 v98 v99 v100 v101 v102 v103 v104 v105 v106 v107 v108 v109 v110 v111 v112 v113 v114 v115 v116 v117 v118 v119 v120 v121 v122 v123 v124 v125 v126 v127 v128 v129 v130 v131 v132 v133 v134 v135 v136 v137 v138 v139 v140 v141 v142 v143 v144 v145 v146 v147 v148 v149 v150 v151 v152 v153 v154 v155 v156 v157 v158 v159 v160 v161 v162 v163 v164 v165 v166 v167 v168 v169 v170 v171 v172 v173 v174 v175 v176 v177 v178 v179 v180 v181 v182 v183 v184 v185 v186 v187 v188 v189 v190 v191 v192 v193 v194 v195 v196 v197 v198 v199 : Value) (W9 : World), (∃ m c, m < nm ∧ c < nc ∧ ¬ Amt (sumE bk.l m c bk.l.length)) → Below wB.heap.size wB W9 → Q .ret ({ tmps := (Value.pointer (some ⟨rb, 0, none⟩) :: Value.int .i64 (nm : Int) :: Value.int .i64 (nc : Int) :: u3 :: u4 :: u5 :: Value.slice none 0 0 :: Value.int .i64 3 :: u8 :: u9 :: v10 :: v11 :: v12 :: v13 :: v14 :: v15 :: v16 :: v17 :: v18 :: u19 :: u20 :: u21 :: u22 :: u23 :: u24 :: u25 :: u26 :: u27 :: u28 :: u29 :: u30 :: u31 :: u32 :: u33 :: u34 :: u35 :: u36 :: u37 :: u38 :: u39 :: u40 :: u41 :: u42 :: u43 :: u44 :: u45 :: u46 :: u47 :: u48 :: u49 :: u50 :: u51 :: u52 :: u53 :: u54 :: u55 :: u56 :: u57 :: u58 :: u59 :: u60 :: u61 :: u62 :: u63 :: u64 :: u65 :: u66 :: u67 :: u68 :: u69 :: u70 :: u71 :: u72 :: u73 :: u74 :: u75 :: u76 :: u77 :: u78 :: u79 :: u80 :: u81 :: u82 :: u83 :: v84 :: v85 :: v86 :: v87 :: v88 :: v89 :: v90 :: v91 :: v92 :: v93 :: v94 :: v95 :: v96 :: v97 :: v98 :: v99 :: v100 :: v101 :: v102 :: v103 :: v104 :: v105 :: v106 :: v107 :: v108 :: v109 :: v110 :: v111 :: v112 :: v113 :: v114 :: v115 :: v116 :: v117 :: v118 :: v119 :: v120 :: v121 :: v122 :: v123 :: v124 :: v125 :: v126 :: v127 :: v128 :: v129 :: v130 :: v131 :: v132 :: v133 :: v134 :: v135 :: v136 :: v137 :: v138 :: v139 :: v140 :: v141 :: v142 :: v143 :: v144 :: v145 :: v146 :: v147 :: v148 :: v149 :: v150 :: v151 :: v152 :: v153 :: v154 :: v155 :: v156 :: v157 :: v158 :: v159 :: v160 :: v161 :: v162 :: v163 :: v164 :: v165 :: v166 :: v167 :: v168 :: v169 :: v170 :: v171 :: v172 :: v173 :: v174 :: v175 :: v176 :: v177 :: v178 :: v179 :: v180 :: v181 :: v182 :: v183 :: v184 :: v185 :: v186 :: v187 :: v188 :: v189 :: v190 :: v191 :: v192 :: v193 :: v194 :: v195 :: v196 :: v197 :: v198 :: v199 :: u200 :: []).toArray, defers := [] } : Act) W9)
    (hK : ∀ (v6 v7 v10 v11 v12 v13 v14 v15 v16 v17 v18 v84 v85 v86 v87 v88 v89 v90 v91 v92 v93 v94 v95 v96 v97 v98 v99 v100 v101 v102 v103 v104 v105 v106 v107 v108 v109 v110 v111 v112 v113 v114 v115 v116 v117 v118 v119 v120 v121 v122 v123 v124 v125 v126 v127 v128 v129 v130 v131 v132 v133 v134 v135 v136 v137 v138 v139 v140 v141 v142 v143 v144 v145 v146 v147 v148 v149 v150 v151 v152 v153 v154 v155 v156 v157 v158 v159 v160 v161 v162 v163 v164 v165 v166 v167 v168 v169 v170 v171 v172 v173 v174 v175 v176 v177 v178 v179 v180 v181 v182 v183 v184 v185 v186 v187 v188 v189 v190 v191 v192 v193 v194 v195 v196 v197 v198 v199 : Value)  (W9 : World), (∀ m c, m < nm → c < nc → Amt (sumE bk.l m c bk.l.length)) → PR wB W9 v10 ((List.range nm).map (rowE bk.l nc)) → Q .normal ({ tmps := (Value.pointer (some ⟨rb, 0, none⟩) :: Value.int .i64 (nm : Int) :: Value.int .i64 (nc : Int) :: u3 :: u4 :: u5 :: v6 :: v7 :: u8 :: u9 :: v10 :: v11 :: v12 :: v13 :: v14 :: v15 :: v16 :: v17 :: v18 :: u19 :: u20 :: u21 :: u22 :: u23 :: u24 :: u25 :: u26 :: u27 :: u28 :: u29 :: u30 :: u31 :: u32 :: u33 :: u34 :: u35 :: u36 :: u37 :: u38 :: u39 :: u40 :: u41 :: u42 :: u43 :: u44 :: u45 :: u46 :: u47 :: u48 :: u49 :: u50 :: u51 :: u52 :: u53 :: u54 :: u55 :: u56 :: u57 :: u58 :: u59 :: u60 :: u61 :: u62 :: u63 :: u64 :: u65 :: u66 :: u67 :: u68 :: u69 :: u70 :: u71 :: u72 :: u73 :: u74 :: u75 :: u76 :: u77 :: u78 :: u79 :: u80 :: u81 :: u82 :: u83 :: v84 :: v85 :: v86 :: v87 :: v88 :: v89 :: v90 :: v91 :: v92 :: v93 :: v94 :: v95 :: v96 :: v97 :: v98 :: v99 :: v100 :: v101 :: v102 :: v103 :: v104 :: v105 :: v106 :: v107 :: v108 :: v109 :: v110 :: v111 :: v112 :: v113 :: v114 :: v115 :: v116 :: v117 :: v118 :: v119 :: v120 :: v121 :: v122 :: v123 :: v124 :: v125 :: v126 :: v127 :: v128 :: v129 :: v130 :: v131 :: v132 :: v133 :: v134 :: v135 :: v136 :: v137 :: v138 :: v139 :: v140 :: v141 :: v142 :: v143 :: v144 :: v145 :: v146 :: v147 :: v148 :: v149 :: v150 :: v151 :: v152 :: v153 :: v154 :: v155 :: v156 :: v157 :: v158 :: v159 :: v160 :: v161 :: v162 :: v163 :: v164 :: v165 :: v166 :: v167 :: v168 :: v169 :: v170 :: v171 :: v172 :: v173 :: v174 :: v175 :: v176 :: v177 :: v178 :: v179 :: v180 :: v181 :: v182 :: v183 :: v184 :: v185 :: v186 :: v187 :: v188 :: v189 :: v190 :: v191 :: v192 :: v193 :: v194 :: v195 :: v196 :: v197 :: v198 :: v199 :: u200 :: []).toArray, defers := [] } : Act) W9) :
    Code.wp Tryz.prog cb2 Q ({ tmps := (Value.pointer (some ⟨rb, 0, none⟩) :: Value.int .i64 (nm : Int) :: Value.int .i64 (nc : Int) :: u3 :: u4 :: u5 :: u6 :: u7 :: u8 :: u9 :: y0 :: Value.int .i64 0 :: u12 :: u13 :: u14 :: u15 :: u16 :: u17 :: u18 :: u19 :: u20 :: u21 :: u22 :: u23 :: u24 :: u25 :: u26 :: u27 :: u28 :: u29 :: u30 :: u31 :: u32 :: u33 :: u34 :: u35 :: u36 :: u37 :: u38 :: u39 :: u40 :: u41 :: u42 :: u43 :: u44 :: u45 :: u46 :: u47 :: u48 :: u49 :: u50 :: u51 :: u52 :: u53 :: u54 :: u55 :: u56 :: u57 :: u58 :: u59 :: u60 :: u61 :: u62 :: u63 :: u64 :: u65 :: u66 :: u67 :: u68 :: u69 :: u70 :: u71 :: u72 :: u73 :: u74 :: u75 :: u76 :: u77 :: u78 :: u79 :: u80 :: u81 :: u82 :: u83 :: u84 :: u85 :: u86 :: u87 :: u88 :: u89 :: u90 :: u91 :: u92 :: u93 :: u94 :: u95 :: u96 :: u97 :: u98 :: u99 :: u100 :: u101 :: u102 :: u103 :: u104 :: u105 :: u106 :: u107 :: u108 :: u109 :: u110 :: u111 :: u112 :: u113 :: u114 :: u115 :: u116 :: u117 :: u118 :: u119 :: u120 :: u121 :: u122 :: u123 :: u124 :: u125 :: u126 :: u127 :: u128 :: u129 :: u130 :: u131 :: u132 :: u133 :: u134 :: u135 :: u136 :: u137 :: u138 :: u139 :: u140 :: u141 :: u142 :: u143 :: u144 :: u145 :: u146 :: u147 :: u148 :: u149 :: u150 :: u151 :: u152 :: u153 :: u154 :: u155 :: u156 :: u157 :: u158 :: u159 :: u160 :: u161 :: u162 :: u163 :: u164 :: u165 :: u166 :: u167 :: u168 :: u169 :: u170 :: u171 :: u172 :: u173 :: u174 :: u175 :: u176 :: u177 :: u178 :: u179 :: u180 :: u181 :: u182 :: u183 :: u184 :: u185 :: u186 :: u187 :: u188 :: u189 :: u190 :: u191 :: u192 :: u193 :: u194 :: u195 :: u196 :: u197 :: u198 :: u199 :: u200 :: []).toArray, defers := [] } : Act) w := by
  replace hK := Lib.hid hK
  have h0 : Hid (PR wB w y0 ((List.range 0).map (rowE bk.l nc))) := Lib.hid hI
  replace hR := Lib.hid hR
  replace hok := Lib.hid hok
  replace hE := Lib.hid hE
  clear hI
  conv => arg 2; whnf
  go_wp2_with fail
  go_loopw [10, 11] (fun u i wr => ∃ m : Nat, m ≤ nm ∧ i = .int .i64 (m : Int) ∧ Hid (∀ m' c, m' < m → c < nc → Amt (sumE bk.l m' c bk.l.length)) ∧ Hid (PR wB wr u ((List.range m).map (rowE bk.l nc)))) (fun _ i _ => nm - (intOf i).toNat)
  case atStart => exact ⟨0, by omega, rfl, Lib.hid fun m' c h => by omega, h0⟩
  case round =>
    obtain ⟨m, hm, rfl, hA, hS⟩ := hrel
    by_cases hmn : m < nm
    · have zm : (m : Int) < (nm : Int) := by omega
      have hRr := Lib.hid (hR.out.bel hS.out.bl)
      have hsucc : (List.range (m + 1)).map (rowE bk.l nc) = ((List.range m).map (rowE bk.l nc)) ++ [rowE bk.l nc m] := by rw [List.range_succ, List.map_append]; rfl
      have hRl : ((List.range m).map (rowE bk.l nc)).length = m := by simp
      obtain ⟨T, hT⟩ : ∃ T, T = (List.range m).map (rowE bk.l nc) := ⟨_, rfl⟩
      rw [← hT] at hS hsucc hRl
      replace hT := Lib.hid hT
      replace hsucc := Lib.hid hsucc
      replace hRl := Lib.hid hRl
      go_upto_block 4 with fail
      refine nrow_any rb m nc bk.l.length bk P v _ wr _ hRr.out rfl hn2 hnc hok.out (IR.made wr) _ _ _ _ _ _ _ _ _ _ _ _ _ _ _ _ _ _ _ _ _ _ _ _ _ _ _ _ _ _ _ _ _ _ _ _ _ _ _ _ _ _ _ _ _ _ _ _ _ _ _ _ _ _ _ _ _ _ _ _ _ _ _ _ _ _ _ _ _ _ _ _ _ _ _ _ _ _ _ _ _ _ _ _ _ _ _ _ _ _ _ _ _ _ _ _ _ _ _ _ _ _ _ _ _ _ _ _ _ _ _ _ _ _ _ _ _ _ _ _ _ _ _ _ _ _ _ _ _ _ _ _ _ _ _ _ _ _ _ _ _ _ _ _ _ _ _ _ _ _ _ _ _ _ _ _ _ _ _ _ _ _ _ _ _ _ _ _ _ _ _ _ _ _ _ _ _ _ _ _ _ _ _ _ _ _ _ _ _ _ _ _ _ _ _ _ ?_ ?_
      · intro v12 v13 v14 v15 v16 v17 v18 v90 v91 v92 v93 v94 v95 v96 v97 v98 v99 v100 v101 v102 v103 v104 v105 v106 v107 v108 v109 v110 v111 v112 v113 v114 v115 v116 v117 v118 v119 v120 v121 v122 v123 v124 v125 v126 v127 v128 v129 v130 v131 v132 v133 v134 v135 v136 v137 v138 v139 v140 v141 v142 v143 v144 v145 v146 v147 v148 v149 v150 v151 v152 v153 v154 v155 v156 v157 v158 v159 v160 v161 v162 v163 v164 v165 v166 v167 v168 v169 v170 v171 v172 v173 v174 v175 v176 v177 v178 v179 v180 v181 v182 v183 v184 v185 v186 v187 v188 v189 v190 v191 v192 v193 v194 v195 W9 hex hb9
        obtain ⟨c, hc, hna⟩ := hex
        exact hE.out _ _ _ _ _ _ _ _ _ _ _ _ _ _ _ _ _ _ _ _ _ _ _ _ _ _ _ _ _ _ _ _ _ _ _ _ _ _ _ _ _ _ _ _ _ _ _ _ _ _ _ _ _ _ _ _ _ _ _ _ _ _ _ _ _ _ _ _ _ _ _ _ _ _ _ _ _ _ _ _ _ _ _ _ _ _ _ _ _ _ _ _ _ _ _ _ _ _ _ _ _ _ _ _ _ _ _ _ _ _ _ _ _ _ _ _ _ _ _ _ _ _ _ _ _ _ ⟨m, c, hmn, hc, hna⟩ (hS.out.bl.trans (hb9.mono hS.out.bl.size))
      intro v6 v7 v12 v13 v14 v15 v16 v17 v18 v90 v91 v92 v93 v94 v95 v96 v97 v98 v99 v100 v101 v102 v103 v104 v105 v106 v107 v108 v109 v110 v111 v112 v113 v114 v115 v116 v117 v118 v119 v120 v121 v122 v123 v124 v125 v126 v127 v128 v129 v130 v131 v132 v133 v134 v135 v136 v137 v138 v139 v140 v141 v142 v143 v144 v145 v146 v147 v148 v149 v150 v151 v152 v153 v154 v155 v156 v157 v158 v159 v160 v161 v162 v163 v164 v165 v166 v167 v168 v169 v170 v171 v172 v173 v174 v175 v176 v177 v178 v179 v180 v181 v182 v183 v184 v185 v186 v187 v188 v189 v190 v191 v192 v193 v194 v195 W9 hAm hI
      have hb9 := hI.bl
      obtain ⟨pp, cc, hpv, -, -, -⟩ := orow_shape hI.row
      have hI2 : IR wr W9 v12 (rowE bk.l nc m) := hI
      have hpl : ((List.range nc).map fun c => sumE bk.l m c bk.l.length).length = nc := by simp
      rw [hpl] at hpv
      subst hpv
      obtain ⟨vs, hr0, hnx⟩ := hS.out.pre hb9 (.cells #[.slice pp nc cc] 50)
      have hnx2 := Lib.hid fun v' w' => hnx (.slice pp nc cc) (rowE bk.l nc m) v' w' hI2
      have hbx : Hid (∀ (j : Nat) (u : Value), [Value.slice pp nc cc][j]? = some u → (W9.alloc (.cells #[.slice pp nc cc] 50)).cell? ((⟨W9.heap.size, 0, none⟩ : Addr).add j) = some u) := Lib.hid fun j u hu => by
        match j with
        | 0 => injection hu with hu; rw [← hu]; exact obj_cell (heap_alloc_new W9 (.cells #[.slice pp nc cc] 50)) rfl
        | j + 1 => simp at hu
      replace hr0 := Lib.hid hr0
      replace hAm := Lib.hid hAm
      clear hnx hI hI2 hS hpl
      go_wp2_with (at_builtin; refine wpList_app1 28 50 1 24 _ Tryz.underlying28 info50 (by rfl) (by omega) (by omega) rfl _ _ rfl rfl _ _ _ rfl hr0.out ⟨W9.heap.size, 0, none⟩ [.slice pp nc cc] rfl rfl hbx.out (fun u hu => by obtain rfl := List.mem_singleton.1 hu; rfl) (by have := hRl.out; omega) ?_)
      intro v' w' hr' hg' hv'
      go_wp2_with fail
      go_roundw
      case rel => exact ⟨m + 1, by omega, by go_num, Lib.hid (fun m' c hm' hc => by
          by_cases e : m' = m
          · subst e; exact hAm.out c hc
          · exact hA.out m' c (by omega) hc), Lib.hid (by rw [hsucc.out]; exact hnx2.out _ _ hr' hg' hv')⟩
      case measure => simp [intOf]; omega
    · obtain rfl : m = nm := by omega
      have zk : ¬ (m : Int) < (m : Int) := by omega
      go_wp2_with fail
      exact hK.out _ _ _ _ _ _ _ _ _ _ _ _ _ _ _ _ _ _ _ _ _ _ _ _ _ _ _ _ _ _ _ _ _ _ _ _ _ _ _ _ _ _ _ _ _ _ _ _ _ _ _ _ _ _ _ _ _ _ _ _ _ _ _ _ _ _ _ _ _ _ _ _ _ _ _ _ _ _ _ _ _ _ _ _ _ _ _ _ _ _ _ _ _ _ _ _ _ _ _ _ _ _ _ _ _ _ _ _ _ _ _ _ _ _ _ _ _ _ _ _ _ _ _ _ _ _ _ _ hA.out hS.out
def outE (e : En) (nm nc : Int) : Prop := e.st = 2 ∧ (nm ≤ e.d.a ∨ nm ≤ e.d.b ∨ nc ≤ e.d.sc ∨ nc ≤ e.d.bc)
set_option maxHeartbeats 4000000 in
set_option maxRecDepth 100000 in
theorem nchk_any {Q : Exit → Act → World → Prop} (rb n : Nat) (nm nc : Int) (bk : Bk) (P : Nat → Prop) (v : Value) (w : World)
    (hR : RBv P w rb bk v) (hn : n = bk.l.length) (hn2 : n ≤ 200)
    (u3 u4 u5 u6 u7 u9 u10 u11 u12 u13 u14 u15 u16 u17 u18 u19 u20 u21 u22 u23 u24 u25 u26 u27 u28 u29 u30 u31 u32 u33 u34 u35 u36 u37 u38 u39 u40 u41 u42 u43 u44 u45 u46 u47 u48 u49 u50 u51 u52 u53 u54 u55 u56 u57 u58 u59 u60 u61 u62 u63 u64 u65 u66 u67 u68 u69 u70 u71 u72 u73 u74 u75 u76 u77 u78 u79 u80 u81 u82 u83 u84 u85 u86 u87 u88 u89 u90 u91 u92 u93 u94 u95 u96 u97 u98 u99 u100 u101 u102 u103 u104 u105 u106 u107 u108 u109 u110 u111 u112 u113 u114 u115 u116 u117 u118 u119 u120 u121 u122 u123 u124 u125 u126 u127 u128 u129 u130 u131 u132 u133 u134 u135 u136 u137 u138 u139 u140 u141 u142 u143 u144 u145 u146 u147 u148 u149 u150 u151 u152 u153 u154 u155 u156 u157 u158 u159 u160 u161 u162 u163 u164 u165 u166 u167 u168 u169 u170 u171 u172 u173 u174 u175 u176 u177 u178 u179 u180 u181 u182 u183 u184 u185 u186 u187 u188 u189 u190 u191 u192 u193 u194 u195 u196 u197 u198 u199 u200 : Value)
    (hE : ∀ (v8 v9 v33 v34 v35 v36 v37 v38 v39 v40 v41 v42 v43 v44 v45 v46 v47 v48 v49 v50 v51 v52 v53 v54 v55 v56 v57 v58 v59 v60 v61 v62 v63 v64 v65 v66 v67 v68 v69 v70 v71 v72 v73 v74 v75 v76 v77 v78 v79 v80 v81 v82 : Value) (W9 : World), (∃ e ∈ bk.l, outE e nm nc) → Below w.heap.size w W9 → Q .ret ({ tmps := (Value.pointer (some ⟨rb, 0, none⟩) :: Value.int .i64 nm :: Value.int .i64 nc :: u3 :: u4 :: u5 :: Value.slice none 0 0 :: Value.int .i64 1 :: v8 :: v9 :: u10 :: u11 :: u12 :: u13 :: u14 :: u15 :: u16 :: u17 :: u18 :: u19 :: u20 :: u21 :: u22 :: u23 :: u24 :: u25 :: u26 :: u27 :: u28 :: u29 :: u30 :: u31 :: u32 :: v33 :: v34 :: v35 :: v36 :: v37 :: v38 :: v39 :: v40 :: v41 :: v42 :: v43 :: v44 :: v45 :: v46 :: v47 :: v48 :: v49 :: v50 :: v51 :: v52 :: v53 :: v54 :: v55 :: v56 :: v57 :: v58 :: v59 :: v60 :: v61 :: v62 :: v63 :: v64 :: v65 :: v66 :: v67 :: v68 :: v69 :: v70 :: v71 :: v72 :: v73 :: v74 :: v75 :: v76 :: v77 :: v78 :: v79 :: v80 :: v81 :: v82 :: u83 :: u84 :: u85 :: u86 :: u87 :: u88 :: u89 :: u90 :: u91 :: u92 :: u93 :: u94 :: u95 :: u96 :: u97 :: u98 :: u99 :: u100 :: u101 :: u102 :: u103 :: u104 :: u105 :: u106 :: u107 :: u108 :: u109 :: u110 :: u111 :: u112 :: u113 :: u114 :: u115 :: u116 :: u117 :: u118 :: u119 :: u120 :: u121 :: u122 :: u123 :: u124 :: u125 :: u126 :: u127 :: u128 :: u129 :: u130 :: u131 :: u132 :: u133 :: u134 :: u135 :: u136 :: u137 :: u138 :: u139 :: u140 :: u141 :: u142 :: u143 :: u144 :: u145 :: u146 :: u147 :: u148 :: u149 :: u150 :: u151 :: u152 :: u153 :: u154 :: u155 :: u156 :: u157 :: u158 :: u159 :: u160 :: u161 :: u162 :: u163 :: u164 :: u165 :: u166 :: u167 :: u168 :: u169 :: u170 :: u171 :: u172 :: u173 :: u174 :: u175 :: u176 :: u177 :: u178 :: u179 :: u180 :: u181 :: u182 :: u183 :: u184 :: u185 :: u186 :: u187 :: u188 :: u189 :: u190 :: u191 :: u192 :: u193 :: u194 :: u195 :: u196 :: u197 :: u198 :: u199 :: u200 :: []).toArray, defers := [] } : Act) W9)
    (hK : ∀ (v6 v7 v8 v9 v33 v34 v35 v36 v37 v38 v39 v40 v41 v42 v43 v44 v45 v46 v47 v48 v49 v50 v51 v52 v53 v54 v55 v56 v57 v58 v59 v60 v61 v62 v63 v64 v65 v66 v67 v68 v69 v70 v71 v72 v73 v74 v75 v76 v77 v78 v79 v80 v81 v82 : Value)  (W9 : World), (∀ e ∈ bk.l, ¬ outE e nm nc) → Below w.heap.size w W9 → Q .normal ({ tmps := (Value.pointer (some ⟨rb, 0, none⟩) :: Value.int .i64 nm :: Value.int .i64 nc :: u3 :: u4 :: u5 :: v6 :: v7 :: v8 :: v9 :: u10 :: u11 :: u12 :: u13 :: u14 :: u15 :: u16 :: u17 :: u18 :: u19 :: u20 :: u21 :: u22 :: u23 :: u24 :: u25 :: u26 :: u27 :: u28 :: u29 :: u30 :: u31 :: u32 :: v33 :: v34 :: v35 :: v36 :: v37 :: v38 :: v39 :: v40 :: v41 :: v42 :: v43 :: v44 :: v45 :: v46 :: v47 :: v48 :: v49 :: v50 :: v51 :: v52 :: v53 :: v54 :: v55 :: v56 :: v57 :: v58 :: v59 :: v60 :: v61 :: v62 :: v63 :: v64 :: v65 :: v66 :: v67 :: v68 :: v69 :: v70 :: v71 :: v72 :: v73 :: v74 :: v75 :: v76 :: v77 :: v78 :: v79 :: v80 :: v81 :: v82 :: u83 :: u84 :: u85 :: u86 :: u87 :: u88 :: u89 :: u90 :: u91 :: u92 :: u93 :: u94 :: u95 :: u96 :: u97 :: u98 :: u99 :: u100 :: u101 :: u102 :: u103 :: u104 :: u105 :: u106 :: u107 :: u108 :: u109 :: u110 :: u111 :: u112 :: u113 :: u114 :: u115 :: u116 :: u117 :: u118 :: u119 :: u120 :: u121 :: u122 :: u123 :: u124 :: u125 :: u126 :: u127 :: u128 :: u129 :: u130 :: u131 :: u132 :: u133 :: u134 :: u135 :: u136 :: u137 :: u138 :: u139 :: u140 :: u141 :: u142 :: u143 :: u144 :: u145 :: u146 :: u147 :: u148 :: u149 :: u150 :: u151 :: u152 :: u153 :: u154 :: u155 :: u156 :: u157 :: u158 :: u159 :: u160 :: u161 :: u162 :: u163 :: u164 :: u165 :: u166 :: u167 :: u168 :: u169 :: u170 :: u171 :: u172 :: u173 :: u174 :: u175 :: u176 :: u177 :: u178 :: u179 :: u180 :: u181 :: u182 :: u183 :: u184 :: u185 :: u186 :: u187 :: u188 :: u189 :: u190 :: u191 :: u192 :: u193 :: u194 :: u195 :: u196 :: u197 :: u198 :: u199 :: u200 :: []).toArray, defers := [] } : Act) W9) :
    Code.wp Tryz.prog cb0 Q ({ tmps := (Value.pointer (some ⟨rb, 0, none⟩) :: Value.int .i64 nm :: Value.int .i64 nc :: u3 :: u4 :: u5 :: u6 :: u7 :: Value.int .i64 0 :: u9 :: u10 :: u11 :: u12 :: u13 :: u14 :: u15 :: u16 :: u17 :: u18 :: u19 :: u20 :: u21 :: u22 :: u23 :: u24 :: u25 :: u26 :: u27 :: u28 :: u29 :: u30 :: u31 :: u32 :: u33 :: u34 :: u35 :: u36 :: u37 :: u38 :: u39 :: u40 :: u41 :: u42 :: u43 :: u44 :: u45 :: u46 :: u47 :: u48 :: u49 :: u50 :: u51 :: u52 :: u53 :: u54 :: u55 :: u56 :: u57 :: u58 :: u59 :: u60 :: u61 :: u62 :: u63 :: u64 :: u65 :: u66 :: u67 :: u68 :: u69 :: u70 :: u71 :: u72 :: u73 :: u74 :: u75 :: u76 :: u77 :: u78 :: u79 :: u80 :: u81 :: u82 :: u83 :: u84 :: u85 :: u86 :: u87 :: u88 :: u89 :: u90 :: u91 :: u92 :: u93 :: u94 :: u95 :: u96 :: u97 :: u98 :: u99 :: u100 :: u101 :: u102 :: u103 :: u104 :: u105 :: u106 :: u107 :: u108 :: u109 :: u110 :: u111 :: u112 :: u113 :: u114 :: u115 :: u116 :: u117 :: u118 :: u119 :: u120 :: u121 :: u122 :: u123 :: u124 :: u125 :: u126 :: u127 :: u128 :: u129 :: u130 :: u131 :: u132 :: u133 :: u134 :: u135 :: u136 :: u137 :: u138 :: u139 :: u140 :: u141 :: u142 :: u143 :: u144 :: u145 :: u146 :: u147 :: u148 :: u149 :: u150 :: u151 :: u152 :: u153 :: u154 :: u155 :: u156 :: u157 :: u158 :: u159 :: u160 :: u161 :: u162 :: u163 :: u164 :: u165 :: u166 :: u167 :: u168 :: u169 :: u170 :: u171 :: u172 :: u173 :: u174 :: u175 :: u176 :: u177 :: u178 :: u179 :: u180 :: u181 :: u182 :: u183 :: u184 :: u185 :: u186 :: u187 :: u188 :: u189 :: u190 :: u191 :: u192 :: u193 :: u194 :: u195 :: u196 :: u197 :: u198 :: u199 :: u200 :: []).toArray, defers := [] } : Act) w := by
  replace hK := Lib.hid hK
  replace hR := Lib.hid hR
  replace hn := Lib.hid hn
  replace hE := Lib.hid hE
  obtain ⟨pv, cv, hv, -, -, -⟩ := orow_shape hR.out.row
  rw [← hn.out] at hv
  replace hv := Lib.hid hv
  conv => arg 2; whnf
  go_wp2_with fail
  go_loopw [8] (fun i wr => ∃ k : Nat, k ≤ n ∧ i = .int .i64 (k : Int) ∧ Hid (∀ j (hj : j < bk.l.length), j < k → ¬ outE bk.l[j] nm nc) ∧ Hid (Below w.heap.size w wr)) (fun i _ => n - (intOf i).toNat)
  case atStart => exact ⟨0, by omega, rfl, Lib.hid fun j _ h => by omega, Lib.hid (Below.refl _ _)⟩
  case round =>
    obtain ⟨k, hk, rfl, hA, hS⟩ := hrel
    have hRr := hR.out.bel hS.out
    have hr : wr.cell? ⟨rb, 2, none⟩ = some v := obj_cell hRr.obj (i := 2) rfl
    rw [hv.out] at hr
    have hrl : rb < wr.heap.size := obj_lt hRr.obj
    by_cases hkn : k < n
    · have hkl : k < bk.l.length := by have := hn.out; omega
      have zk : (k : Int) < (n : Int) := by omega
      obtain ⟨gv, capv, curv, hsl, hgv, -, -, -, hat⟩ := orow_some hRr.row (by omega)
      rw [hsl, ← hn.out] at hv
      have hpe : pv = some ⟨gv, 0, none⟩ := by have := hv.out; injection this with x _ _; exact x.symm
      subst hpe
      have hgl : gv < wr.heap.size := obj_lt hgv
      have hcell : ∀ j u, (bk.l[k]).rcs[j]? = some u → wr.cell? ⟨gv, k * 11 + j, none⟩ = some u := fun j u hj => by
        have hjl : j < 11 := by have := (List.getElem?_eq_some_iff.1 hj).1; rw [En.rcs_len] at this; exact this
        exact obj_cell hgv (hat _ _ (by rw [cellsR_at hkl j hjl]; exact hj))
      have e0 := hcell 0 _ rfl
      have e1 := hcell 1 _ rfl
      have e2 := hcell 2 _ rfl
      have e3 := hcell 3 _ rfl
      have e4 := hcell 4 _ rfl
      have e5 := hcell 5 _ rfl
      have e6 := hcell 6 _ rfl
      have e7 := hcell 7 _ rfl
      rw [Nat.add_zero] at e0
      have hex : Hid (outE bk.l[k] nm nc → ∃ e ∈ bk.l, outE e nm nc) := Lib.hid fun h => ⟨_, List.getElem_mem hkl, h⟩
      have hnx : Hid (¬ outE bk.l[k] nm nc → ∀ j (hj : j < bk.l.length), j < k + 1 → ¬ outE bk.l[j] nm nc) := Lib.hid fun hh j hj hjk => by
        by_cases e : j = k
        · subst e; exact hh
        · exact hA.out j hj (by omega)
      have hbA : Hid (∀ o, Below w.heap.size w (wr.alloc o)) := Lib.hid fun o => hS.out.alloc hS.out.size o
      generalize bk.l[k] = x at *
      obtain ⟨⟨y1, y2, y3, y4, y5, y6, y7⟩, st, ask, nth⟩ := x
      unfold outE at hex hnx
      dsimp only at e0 e1 e2 e3 e4 e5 e6 e7 hex hnx
      clear hcell hat hsl hgv hRr
      by_cases hst : st = 2
      · subst hst
        by_cases c1 : nm ≤ y2
        · have hx := Lib.hid (hex.out ⟨rfl, .inl c1⟩)
          go_wp2_with fail
          exact hE.out _ _ _ _ _ _ _ _ _ _ _ _ _ _ _ _ _ _ _ _ _ _ _ _ _ _ _ _ _ _ _ _ _ _ _ _ _ _ _ _ _ _ _ _ _ _ _ _ _ _ _ _ _ hx.out (hbA.out _)
        · by_cases c2 : nm ≤ y3
          · have hx := Lib.hid (hex.out ⟨rfl, .inr (.inl c2)⟩)
            go_wp2_with fail
            exact hE.out _ _ _ _ _ _ _ _ _ _ _ _ _ _ _ _ _ _ _ _ _ _ _ _ _ _ _ _ _ _ _ _ _ _ _ _ _ _ _ _ _ _ _ _ _ _ _ _ _ _ _ _ _ hx.out (hbA.out _)
          · by_cases c3 : nc ≤ y4
            · have hx := Lib.hid (hex.out ⟨rfl, .inr (.inr (.inl c3))⟩)
              go_wp2_with fail
              exact hE.out _ _ _ _ _ _ _ _ _ _ _ _ _ _ _ _ _ _ _ _ _ _ _ _ _ _ _ _ _ _ _ _ _ _ _ _ _ _ _ _ _ _ _ _ _ _ _ _ _ _ _ _ _ hx.out (hbA.out _)
            · by_cases c4 : nc ≤ y5
              · have hx := Lib.hid (hex.out ⟨rfl, .inr (.inr (.inr c4))⟩)
                go_wp2_with fail
                exact hE.out _ _ _ _ _ _ _ _ _ _ _ _ _ _ _ _ _ _ _ _ _ _ _ _ _ _ _ _ _ _ _ _ _ _ _ _ _ _ _ _ _ _ _ _ _ _ _ _ _ _ _ _ _ hx.out (hbA.out _)
              · have hx := Lib.hid (hnx.out (fun h => by rcases h.2 with h | h | h | h; exact c1 h; exact c2 h; exact c3 h; exact c4 h))
                go_wp2_with fail
                go_roundw
                case rel => exact ⟨k + 1, by omega, by go_num, hx, Lib.hid (hbA.out _)⟩
                case measure => simp [intOf]; omega
      · have zst : (st == (2 : Int)) = false := by simp [hst]
        have hx := Lib.hid (hnx.out (fun h => hst h.1))
        go_wp2_with fail
        go_roundw
        case rel => exact ⟨k + 1, by omega, by go_num, hx, Lib.hid (hbA.out _)⟩
        case measure => simp [intOf]; omega
    · obtain rfl : k = n := by omega
      have zk : ¬ (k : Int) < (k : Int) := by omega
      have hall : Hid (∀ e ∈ bk.l, ¬ outE e nm nc) := Lib.hid fun e he => by
        obtain ⟨j, hj, rfl⟩ := List.mem_iff_getElem.1 he
        exact hA.out j hj (by have := hn.out; omega)
      go_wp2_with fail
      exact hK.out _ _ _ _ _ _ _ _ _ _ _ _ _ _ _ _ _ _ _ _ _ _ _ _ _ _ _ _ _ _ _ _ _ _ _ _ _ _ _ _ _ _ _ _ _ _ _ _ _ _ _ _ _ _ _ hall.out hS.out
end Go.Proofs.YthocnlalahknjaaGreat.Dd
namespace Go.Proofs.YthocnlalahknjaaGreat.Dd
open Go.RowKit
set_option linter.unusedVariables false
def okN (nm nc : Int) : Prop := 1 ≤ nm ∧ nm ≤ 16 ∧ 1 ≤ nc ∧ nc ≤ 8
/-- what the reference's Net hands back -/
def RNetOut (l : List En) (nm nc : Int) (w' : World) (e : Ending) : Prop :=
  (¬ okN nm nc ∧ e = .returned (.tuple #[.slice none 0 0, .int .i64 1])) ∨
  (okN nm nc ∧ (∃ en ∈ l, outE en nm nc) ∧ e = .returned (.tuple #[.slice none 0 0, .int .i64 1])) ∨
  (okN nm nc ∧ (∀ en ∈ l, ¬ outE en nm nc) ∧ (∃ m c, m < nm.toNat ∧ c < nc.toNat ∧ ¬ Amt (sumE l m c l.length)) ∧ e = .returned (.tuple #[.slice none 0 0, .int .i64 3])) ∨
  (okN nm nc ∧ (∀ en ∈ l, ¬ outE en nm nc) ∧ (∀ m c, m < nm.toNat → c < nc.toNat → Amt (sumE l m c l.length)) ∧ ∃ u, e = .returned (.tuple #[u, .int .i64 0]) ∧ NSeq w' u ((List.range nm.toNat).map (rowE l nc.toNat)))
set_option maxHeartbeats 1000000 in
set_option maxRecDepth 100000 in
theorem rnet_arg (rb : Nat) (nm nc : Int) (w : World) (h : ¬ okN nm nc) : Calls Tryz.prog 10 #[.pointer (some ⟨rb, 0, none⟩), .int .i64 nm, .int .i64 nc] w fun e w' => e = .returned (.tuple #[.slice none 0 0, .int .i64 1]) ∧ w = w' := by
  unfold okN at h
  by_cases a1 : nm < 1
  · go_enter Tryz.func10, Tryz.ntmps10
    go_wp2_with fail
    go_ret2
    exact ⟨rfl, rfl⟩
  · by_cases a2 : 16 < nm
    · go_enter Tryz.func10, Tryz.ntmps10
      go_wp2_with fail
      go_ret2
      exact ⟨rfl, rfl⟩
    · by_cases a3 : nc < 1
      · go_enter Tryz.func10, Tryz.ntmps10
        go_wp2_with fail
        go_ret2
        exact ⟨rfl, rfl⟩
      · have a4 : 8 < nc := by omega
        go_enter Tryz.func10, Tryz.ntmps10
        go_wp2_with fail
        go_ret2
        exact ⟨rfl, rfl⟩
set_option maxHeartbeats 4000000 in
set_option maxRecDepth 100000 in
theorem rnet_any (rb : Nat) (nm nc : Int) (bk : Bk) (P : Nat → Prop) (v : Value) (w : World) (hR : RBv P w rb bk v) (hn2 : bk.l.length ≤ 200) (hok : EnsOk bk.l) :
    Calls Tryz.prog 10 #[.pointer (some ⟨rb, 0, none⟩), .int .i64 nm, .int .i64 nc] w fun e w' => Below w.heap.size w w' ∧ RNetOut bk.l nm nc w' e := by
  by_cases hN : okN nm nc
  · have hN2 := hN
    unfold okN at hN2
    obtain ⟨n, rfl⟩ : ∃ n : Nat, nm = n := ⟨nm.toNat, by omega⟩
    obtain ⟨m, rfl⟩ : ∃ n : Nat, nc = n := ⟨nc.toNat, by omega⟩
    have z1 : ¬ (n : Int) < 1 := by omega
    have z2 : ¬ (16 : Int) < (n : Int) := by omega
    have z3 : ¬ (m : Int) < 1 := by omega
    have z4 : ¬ (8 : Int) < (m : Int) := by omega
    replace hN := Lib.hid hN
    replace hN2 := Lib.hid hN2
    go_enter Tryz.func10, Tryz.ntmps10
    go_upto_block 0 with fail
    refine nchk_any rb bk.l.length n m bk P v w hR rfl hn2 _ _ _ _ _ _ _ _ _ _ _ _ _ _ _ _ _ _ _ _ _ _ _ _ _ _ _ _ _ _ _ _ _ _ _ _ _ _ _ _ _ _ _ _ _ _ _ _ _ _ _ _ _ _ _ _ _ _ _ _ _ _ _ _ _ _ _ _ _ _ _ _ _ _ _ _ _ _ _ _ _ _ _ _ _ _ _ _ _ _ _ _ _ _ _ _ _ _ _ _ _ _ _ _ _ _ _ _ _ _ _ _ _ _ _ _ _ _ _ _ _ _ _ _ _ _ _ _ _ _ _ _ _ _ _ _ _ _ _ _ _ _ _ _ _ _ _ _ _ _ _ _ _ _ _ _ _ _ _ _ _ _ _ _ _ _ _ _ _ _ _ _ _ _ _ _ _ _ _ _ _ _ _ _ _ _ _ _ _ _ _ _ _ _ _ _ _ ?_ ?_
    · intro v8 v9 v33 v34 v35 v36 v37 v38 v39 v40 v41 v42 v43 v44 v45 v46 v47 v48 v49 v50 v51 v52 v53 v54 v55 v56 v57 v58 v59 v60 v61 v62 v63 v64 v65 v66 v67 v68 v69 v70 v71 v72 v73 v74 v75 v76 v77 v78 v79 v80 v81 v82 W9 hex hb9
      go_ret2
      exact ⟨hb9, .inr (.inl ⟨hN.out, hex, rfl⟩)⟩
    intro v6 v7 v8 v9 v33 v34 v35 v36 v37 v38 v39 v40 v41 v42 v43 v44 v45 v46 v47 v48 v49 v50 v51 v52 v53 v54 v55 v56 v57 v58 v59 v60 v61 v62 v63 v64 v65 v66 v67 v68 v69 v70 v71 v72 v73 v74 v75 v76 v77 v78 v79 v80 v81 v82 W9 hall hb9
    have hR9 := hR.bel hb9
    replace hall := Lib.hid hall
    replace hb9 := Lib.hid hb9
    go_upto_block 2 with fail
    refine nmat_any rb n m bk P v _ W9 _ hR9 hn2 (by have := hN2.out; omega) (by have := hN2.out; omega) hok (PR.made W9) _ _ _ _ _ _ _ _ _ _ _ _ _ _ _ _ _ _ _ _ _ _ _ _ _ _ _ _ _ _ _ _ _ _ _ _ _ _ _ _ _ _ _ _ _ _ _ _ _ _ _ _ _ _ _ _ _ _ _ _ _ _ _ _ _ _ _ _ _ _ _ _ _ _ _ _ _ _ _ _ _ _ _ _ _ _ _ _ _ _ _ _ _ _ _ _ _ _ _ _ _ _ _ _ _ _ _ _ _ _ _ _ _ _ _ _ _ _ _ _ _ _ _ _ _ _ _ _ _ _ _ _ _ _ _ _ _ _ _ _ _ _ _ _ _ _ _ _ _ _ _ _ _ _ _ _ _ _ _ _ _ _ _ _ _ _ _ _ _ _ _ _ _ _ _ _ _ _ _ _ _ _ _ _ _ _ _ _ _ _ _ _ _ _ _ _ ?_ ?_
    · intro v10 v11 v12 v13 v14 v15 v16 v17 v18 v84 v85 v86 v87 v88 v89 v90 v91 v92 v93 v94 v95 v96 v97 v98 v99 v100 v101 v102 v103 v104 v105 v106 v107 v108 v109 v110 v111 v112 v113 v114 v115 v116 v117 v118 v119 v120 v121 v122 v123 v124 v125 v126 v127 v128 v129 v130 v131 v132 v133 v134 v135 v136 v137 v138 v139 v140 v141 v142 v143 v144 v145 v146 v147 v148 v149 v150 v151 v152 v153 v154 v155 v156 v157 v158 v159 v160 v161 v162 v163 v164 v165 v166 v167 v168 v169 v170 v171 v172 v173 v174 v175 v176 v177 v178 v179 v180 v181 v182 v183 v184 v185 v186 v187 v188 v189 v190 v191 v192 v193 v194 v195 v196 v197 v198 v199 W5 hex hb5
      go_ret2
      exact ⟨hb9.out.trans (hb5.mono hb9.out.size), .inr (.inr (.inl ⟨hN.out, hall.out, hex, rfl⟩))⟩
    intro v6 v7 v10 v11 v12 v13 v14 v15 v16 v17 v18 v84 v85 v86 v87 v88 v89 v90 v91 v92 v93 v94 v95 v96 v97 v98 v99 v100 v101 v102 v103 v104 v105 v106 v107 v108 v109 v110 v111 v112 v113 v114 v115 v116 v117 v118 v119 v120 v121 v122 v123 v124 v125 v126 v127 v128 v129 v130 v131 v132 v133 v134 v135 v136 v137 v138 v139 v140 v141 v142 v143 v144 v145 v146 v147 v148 v149 v150 v151 v152 v153 v154 v155 v156 v157 v158 v159 v160 v161 v162 v163 v164 v165 v166 v167 v168 v169 v170 v171 v172 v173 v174 v175 v176 v177 v178 v179 v180 v181 v182 v183 v184 v185 v186 v187 v188 v189 v190 v191 v192 v193 v194 v195 v196 v197 v198 v199 W5 hAm hP
    replace hAm := Lib.hid hAm
    replace hP := Lib.hid hP
    go_wp2_with fail
    go_ret2
    refine ⟨hb9.out.trans (hP.out.bl.mono hb9.out.size), .inr (.inr (.inr ⟨hN.out, hall.out, hAm.out, _, rfl, hP.out.seq (fun r hr x hx => ?_) (fun r hr => ?_)⟩))⟩
    · obtain ⟨i, hi, rfl⟩ := List.mem_map.1 hr
      unfold rowE at hx
      obtain ⟨c, hc, rfl⟩ := List.mem_map.1 hx
      exact hAm.out i c (List.mem_range.1 hi) (List.mem_range.1 hc)
    · obtain ⟨i, hi, rfl⟩ := List.mem_map.1 hr
      have := hN2.out
      rw [rowE_len]; omega
  · refine (rnet_arg rb nm nc w hN).mono ?_
    rintro e w' ⟨rfl, rfl⟩
    exact ⟨Below.refl _ _, .inl ⟨hN, rfl⟩⟩
end Go.Proofs.YthocnlalahknjaaGreat.Dd
