/- The reference's Net: one member's row. -/
import Derived.Test.YthocnlalahknjaaGreatQNC
import Derived.Test.YthocnlalahknjaaGreatQWD
namespace Go.Proofs.YthocnlalahknjaaGreat.Dd
open Go.RowKit
set_option linter.unusedVariables false
theorem RBv.bel {P : Nat → Prop} {w w' : World} {rb : Nat} {b : Bk} {v : Value} (h : RBv P w rb b v) (hb : Below w.heap.size w w') : RBv P w' rb b v :=
  ⟨(hb.block _ (obj_lt h.obj)).trans h.obj, orow_kept h.row fun g hg => hb.block g (World.ownsRow.lt h.row g hg).2, h.pg, h.pv⟩
theorem own_new (s : Nat) : ∀ g, (Value.slice (some ⟨s, 0, none⟩) 0 0).ownBlock = some g → s ≤ g := fun g hg => by
  have : g = s := by simpa [Value.ownBlock] using hg.symm
  omega
theorem IR.made (w : World) : IR w (w.alloc (.cells #[] 2)) (.slice (some ⟨w.heap.size, 0, none⟩) 0 0) [] :=
  ⟨World.ownsRow_made w #[] 0 (Nat.zero_le _) (by decide) (by simp), own_new _, (Below.refl _ _).alloc (Nat.le_refl _) _⟩
theorem PR.made (w : World) : PR w (w.alloc (.cells #[] 50)) (.slice (some ⟨w.heap.size, 0, none⟩) 0 0) [] :=
  ⟨⟨[], rfl, World.ownsRow_made w #[] 0 (Nat.zero_le _) (by decide) (by simp), fun i h => by simp at h, fun i j v v' _ h => by simp at h⟩, own_new _, (Below.refl _ _).alloc (Nat.le_refl _) _⟩
theorem big_zero (W : World) : BigAt (W.alloc (.cells #[.bool false, .slice none 0 0] 79)) W.heap.size 5 0 false none 0 0 :=
  ⟨heap_alloc_new W _, ⟨false, none, 0, 0, [], rfl, DRow.nil _ _, Nat.le_refl _, fun _ => rfl, by omega, rfl, fun _ => rfl, by omega⟩⟩
theorem fit_yes {N : Int} (h : Amt N) : fitRV N = N ∧ fitRE N = 0 := by unfold Amt at h; unfold fitRV fitRE; rw [if_pos h, if_pos h]; exact ⟨rfl, rfl⟩
theorem fit_no {N : Int} (h : ¬ Amt N) : fitRV N = 0 ∧ fitRE N = 3 := by unfold Amt at h; unfold fitRV fitRE; rw [if_neg h, if_neg h]; exact ⟨rfl, rfl⟩
/-- what is known of the entries that a book holds -/
def EnsOk (l : List En) : Prop := ∀ e ∈ l, e.st = 2 → -9223372036854775808 < e.d.s ∧ e.d.s ≤ 9223372036854775807 ∧ -9223372036854775808 < e.d.t ∧ e.d.t ≤ 9223372036854775807
set_option maxHeartbeats 4000000 in
set_option maxRecDepth 100000 in
theorem nrow_any {Q : Exit → Act → World → Prop} (rb m nc n : Nat) (bk : Bk) (P : Nat → Prop) (v y0 : Value) (wB w : World)
    (hR : RBv P wB rb bk v) (hn : n = bk.l.length) (hn2 : n ≤ 200) (hnc : nc ≤ 8) (hok : EnsOk bk.l) (hI : IR wB w y0 [])
    (u1 u3 u4 u5 u6 u7 u8 u9 u10 u14 u15 u16 u17 u18 u19 u20 u21 u22 u23 u24 u25 u26 u27 u28 u29 u30 u31 u32 u33 u34 u35 u36 u37 u38 u39 u40 u41 u42 u43 u44 u45 u46 u47 u48 u49 u50 u51 u52 u53 u54 u55 u56 u57 u58 u59 u60 u61 u62 u63 u64 u65 u66 u67 u68 u69 u70 u71 u72 u73 u74 u75 u76 u77 u78 u79 u80 u81 u82 u83 u84 u85 u86 u87 u88 u89 u90 u91 u92 u93 u94 u95 u96 u97 u98 u99 u100 u101 u102 u103 u104 u105 u106 u107 u108 u109 u110 u111 u112 u113 u114 u115 u116 u117 u118 u119 u120 u121 u122 u123 u124 u125 u126 u127 u128 u129 u130 u131 u132 u133 u134 u135 u136 u137 u138 u139 u140 u141 u142 u143 u144 u145 u146 u147 u148 u149 u150 u151 u152 u153 u154 u155 u156 u157 u158 u159 u160 u161 u162 u163 u164 u165 u166 u167 u168 u169 u170 u171 u172 u173 u174 u175 u176 u177 u178 u179 u180 u181 u182 u183 u184 u185 u186 u187 u188 u189 u190 u191 u192 u193 u194 u195 u196 u197 u198 u199 u200 : Value)
    (hE : ∀ (v12 v13 v14 v15 v16 v17 v18 v90 v91 v92 v93 v94 v95 v96 v97 v98 v99 v100 v101 v102 v103 v104 v105 v106 v107 v108 v109 v110 v111 v112 v113 v114 v115 v116 v117 v118 v119 v120 v121 v122 v123 v124 v125 v126 v127 v128 v129 v130 v131 v132 v133 v134 v135 v136 v137 v138 v139 v140 v141 v142 v143 v144 v145 v146 v147 v148 v149 v150 v151 v152 v153 v154 v155 v156 v157 v158 v159 v160 v161 v162 v163 v164 v165 v166 v167 v168 v169 v170 v171 v172 v173 v174 v175 v176 v177 v178 v179 v180 v181 v182 v183 v184 v185 v186 v187 v188 v189 v190 v191 v192 v193 v194 v195 : Value) (W9 : World), (∃ c, c < nc ∧ ¬ Amt (sumE bk.l m c n)) → Below wB.heap.size wB W9 → Q .ret ({ tmps := (Value.pointer (some ⟨rb, 0, none⟩) :: u1 :: Value.int .i64 (nc : Int) :: u3 :: u4 :: u5 :: Value.slice none 0 0 :: Value.int .i64 3 :: u8 :: u9 :: u10 :: Value.int .i64 (m : Int) :: v12 :: v13 :: v14 :: v15 :: v16 :: v17 :: v18 :: u19 :: u20 :: u21 :: u22 :: u23 :: u24 :: u25 :: u26 :: u27 :: u28 :: u29 :: u30 :: u31 :: u32 :: u33 :: u34 :: u35 :: u36 :: u37 :: u38 :: u39 :: u40 :: u41 :: u42 :: u43 :: u44 :: u45 :: u46 :: u47 :: u48 :: u49 :: u50 :: u51 :: u52 :: u53 :: u54 :: u55 :: u56 :: u57 :: u58 :: u59 :: u60 :: u61 :: u62 :: u63 :: u64 :: u65 :: u66 :: u67 :: u68 :: u69 :: u70 :: u71 :: u72 :: u73 :: u74 :: u75 :: u76 :: u77 :: u78 :: u79 :: u80 :: u81 :: u82 :: u83 :: u84 :: u85 :: u86 :: u87 :: u88 :: u89 :: v90 :: v91 :: v92 :: v93 :: v94 :: v95 :: v96 :: v97 :: v98 :: v99 :: v100 :: v101 :: v102 :: v103 :: v104 :: v105 :: v106 :: v107 :: v108 :: v109 :: v110 :: v111 :: v112 :: v113 :: v114 :: v115 :: v116 :: v117 :: v118 :: v119 :: v120 :: v121 :: v122 :: v123 :: v124 :: v125 :: v126 :: v127 :: v128 :: v129 :: v130 :: v131 :: v132 :: v133 :: v134 :: v135 :: v136 :: v137 :: v138 :: v139 :: v140 :: v141 :: v142 :: v143 :: v144 :: v145 :: v146 :: v147 :: v148 :: v149 :: v150 :: v151 :: v152 :: v153 :: v154 :: v155 :: v156 :: v157 :: v158 :: v159 :: v160 :: v161 :: v162 :: v163 :: v164 :: v165 :: v166 :: v167 :: v168 :: v169 :: v170 :: v171 :: v172 :: v173 :: v174 :: v175 :: v176 :: v177 :: v178 :: v179 :: v180 :: v181 :: v182 :: v183 :: v184 :: v185 :: v186 :: v187 :: v188 :: v189 :: v190 :: v191 :: v192 :: v193 :: v194 :: v195 :: u196 :: u197 :: u198 :: u199 :: u200 :: []).toArray, defers := [] } : Act) W9)
    (hK : ∀ (v6 v7 v12 v13 v14 v15 v16 v17 v18 v90 v91 v92 v93 v94 v95 v96 v97 v98 v99 v100 v101 v102 v103 v104 v105 v106 v107 v108 v109 v110 v111 v112 v113 v114 v115 v116 v117 v118 v119 v120 v121 v122 v123 v124 v125 v126 v127 v128 v129 v130 v131 v132 v133 v134 v135 v136 v137 v138 v139 v140 v141 v142 v143 v144 v145 v146 v147 v148 v149 v150 v151 v152 v153 v154 v155 v156 v157 v158 v159 v160 v161 v162 v163 v164 v165 v166 v167 v168 v169 v170 v171 v172 v173 v174 v175 v176 v177 v178 v179 v180 v181 v182 v183 v184 v185 v186 v187 v188 v189 v190 v191 v192 v193 v194 v195 : Value)  (W9 : World), (∀ c, c < nc → Amt (sumE bk.l m c n)) → IR wB W9 v12 ((List.range nc).map fun c => sumE bk.l m c n) → Q .normal ({ tmps := (Value.pointer (some ⟨rb, 0, none⟩) :: u1 :: Value.int .i64 (nc : Int) :: u3 :: u4 :: u5 :: v6 :: v7 :: u8 :: u9 :: u10 :: Value.int .i64 (m : Int) :: v12 :: v13 :: v14 :: v15 :: v16 :: v17 :: v18 :: u19 :: u20 :: u21 :: u22 :: u23 :: u24 :: u25 :: u26 :: u27 :: u28 :: u29 :: u30 :: u31 :: u32 :: u33 :: u34 :: u35 :: u36 :: u37 :: u38 :: u39 :: u40 :: u41 :: u42 :: u43 :: u44 :: u45 :: u46 :: u47 :: u48 :: u49 :: u50 :: u51 :: u52 :: u53 :: u54 :: u55 :: u56 :: u57 :: u58 :: u59 :: u60 :: u61 :: u62 :: u63 :: u64 :: u65 :: u66 :: u67 :: u68 :: u69 :: u70 :: u71 :: u72 :: u73 :: u74 :: u75 :: u76 :: u77 :: u78 :: u79 :: u80 :: u81 :: u82 :: u83 :: u84 :: u85 :: u86 :: u87 :: u88 :: u89 :: v90 :: v91 :: v92 :: v93 :: v94 :: v95 :: v96 :: v97 :: v98 :: v99 :: v100 :: v101 :: v102 :: v103 :: v104 :: v105 :: v106 :: v107 :: v108 :: v109 :: v110 :: v111 :: v112 :: v113 :: v114 :: v115 :: v116 :: v117 :: v118 :: v119 :: v120 :: v121 :: v122 :: v123 :: v124 :: v125 :: v126 :: v127 :: v128 :: v129 :: v130 :: v131 :: v132 :: v133 :: v134 :: v135 :: v136 :: v137 :: v138 :: v139 :: v140 :: v141 :: v142 :: v143 :: v144 :: v145 :: v146 :: v147 :: v148 :: v149 :: v150 :: v151 :: v152 :: v153 :: v154 :: v155 :: v156 :: v157 :: v158 :: v159 :: v160 :: v161 :: v162 :: v163 :: v164 :: v165 :: v166 :: v167 :: v168 :: v169 :: v170 :: v171 :: v172 :: v173 :: v174 :: v175 :: v176 :: v177 :: v178 :: v179 :: v180 :: v181 :: v182 :: v183 :: v184 :: v185 :: v186 :: v187 :: v188 :: v189 :: v190 :: v191 :: v192 :: v193 :: v194 :: v195 :: u196 :: u197 :: u198 :: u199 :: u200 :: []).toArray, defers := [] } : Act) W9) :
    Code.wp Tryz.prog cb4 Q ({ tmps := (Value.pointer (some ⟨rb, 0, none⟩) :: u1 :: Value.int .i64 (nc : Int) :: u3 :: u4 :: u5 :: u6 :: u7 :: u8 :: u9 :: u10 :: Value.int .i64 (m : Int) :: y0 :: Value.int .i64 0 :: u14 :: u15 :: u16 :: u17 :: u18 :: u19 :: u20 :: u21 :: u22 :: u23 :: u24 :: u25 :: u26 :: u27 :: u28 :: u29 :: u30 :: u31 :: u32 :: u33 :: u34 :: u35 :: u36 :: u37 :: u38 :: u39 :: u40 :: u41 :: u42 :: u43 :: u44 :: u45 :: u46 :: u47 :: u48 :: u49 :: u50 :: u51 :: u52 :: u53 :: u54 :: u55 :: u56 :: u57 :: u58 :: u59 :: u60 :: u61 :: u62 :: u63 :: u64 :: u65 :: u66 :: u67 :: u68 :: u69 :: u70 :: u71 :: u72 :: u73 :: u74 :: u75 :: u76 :: u77 :: u78 :: u79 :: u80 :: u81 :: u82 :: u83 :: u84 :: u85 :: u86 :: u87 :: u88 :: u89 :: u90 :: u91 :: u92 :: u93 :: u94 :: u95 :: u96 :: u97 :: u98 :: u99 :: u100 :: u101 :: u102 :: u103 :: u104 :: u105 :: u106 :: u107 :: u108 :: u109 :: u110 :: u111 :: u112 :: u113 :: u114 :: u115 :: u116 :: u117 :: u118 :: u119 :: u120 :: u121 :: u122 :: u123 :: u124 :: u125 :: u126 :: u127 :: u128 :: u129 :: u130 :: u131 :: u132 :: u133 :: u134 :: u135 :: u136 :: u137 :: u138 :: u139 :: u140 :: u141 :: u142 :: u143 :: u144 :: u145 :: u146 :: u147 :: u148 :: u149 :: u150 :: u151 :: u152 :: u153 :: u154 :: u155 :: u156 :: u157 :: u158 :: u159 :: u160 :: u161 :: u162 :: u163 :: u164 :: u165 :: u166 :: u167 :: u168 :: u169 :: u170 :: u171 :: u172 :: u173 :: u174 :: u175 :: u176 :: u177 :: u178 :: u179 :: u180 :: u181 :: u182 :: u183 :: u184 :: u185 :: u186 :: u187 :: u188 :: u189 :: u190 :: u191 :: u192 :: u193 :: u194 :: u195 :: u196 :: u197 :: u198 :: u199 :: u200 :: []).toArray, defers := [] } : Act) w := by
  replace hK := Lib.hid hK
  have h0 : Hid (IR wB w y0 ((List.range 0).map fun c => sumE bk.l m c n)) := Lib.hid hI
  replace hR := Lib.hid hR
  replace hn := Lib.hid hn
  replace hok := Lib.hid hok
  replace hE := Lib.hid hE
  clear hI
  conv => arg 2; whnf
  go_wp2_with fail
  go_loopw [12, 13] (fun u i wr => ∃ c : Nat, c ≤ nc ∧ i = .int .i64 (c : Int) ∧ Hid (∀ c', c' < c → Amt (sumE bk.l m c' n)) ∧ Hid (IR wB wr u ((List.range c).map fun c => sumE bk.l m c n))) (fun _ i _ => nc - (intOf i).toNat)
  case atStart => exact ⟨0, by omega, rfl, Lib.hid fun c' h => by omega, h0⟩
  case round =>
    obtain ⟨c, hc, rfl, hA, hS⟩ := hrel
    by_cases hcn : c < nc
    · have zc : (c : Int) < (nc : Int) := by omega
      have hRr := hR.out.bel hS.out.bl
      have hbig := big_zero wr
      obtain ⟨W1, hW1⟩ : ∃ W1, W1 = wr.alloc (.cells #[.bool false, .slice none 0 0] 79) := ⟨_, rfl⟩
      have hbW : Below wr.heap.size wr W1 := by rw [hW1]; exact (Below.refl _ _).alloc (Nat.le_refl _) _
      rw [← hW1] at hbig
      have hR1 := Lib.hid (hRr.bel hbW)
      have hrb : rb < wr.heap.size := obj_lt hRr.obj
      have hvb : Hid (∀ g, v.ownBlock = some g → g < wr.heap.size) := Lib.hid fun g hg => (World.ownsRow.lt hRr.row g hg).2
      have hW1' : Hid (wr.alloc (.cells #[.bool false, .slice none 0 0] 79) = W1) := Lib.hid hW1.symm
      replace hW1 := True.intro
      replace hbig := Lib.hid hbig
      have hS1 := hS
      clear hRr
      go_upto_block 6 with fail
      rw [hW1'.out]
      refine sumE_any rb wr.heap.size m c n bk P v false none 0 0 W1 hR1.out hrb hvb.out hn.out hn2 hbig.out hok.out _ _ _ _ _ _ _ _ _ _ _ _ _ _ _ _ _ _ _ _ _ _ _ _ _ _ _ _ _ _ _ _ _ _ _ _ _ _ _ _ _ _ _ _ _ _ _ _ _ _ _ _ _ _ _ _ _ _ _ _ _ _ _ _ _ _ _ _ _ _ _ _ _ _ _ _ _ _ _ _ _ _ _ _ _ _ _ _ _ _ _ _ _ _ _ _ _ _ _ _ _ _ _ _ _ _ _ _ _ _ _ _ _ _ _ _ _ _ _ _ _ _ _ _ _ _ _ _ _ _ _ _ _ _ _ _ _ _ _ _ _ _ _ _ _ _ _ _ _ _ _ _ _ _ _ _ _ _ _ _ _ _ _ _ _ _ _ _ _ _ _ _ _ _ _ _ _ _ _ _ _ _ _ _ _ _ _ _ _ _ _ _ _ _ _ _ ?_
      intro v15 v16 v96 v97 v98 v99 v100 v101 v102 v103 v104 v105 v106 v107 v108 v109 v110 v111 v112 v113 v114 v115 v116 v117 v118 v119 v120 v121 v122 v123 v124 v125 v126 v127 v128 v129 v130 v131 v132 v133 v134 v135 v136 v137 v138 v139 v140 v141 v142 v143 v144 v145 v146 v147 v148 v149 v150 v151 v152 v153 v154 v155 v156 v157 v158 v159 v160 v161 v162 v163 v164 v165 v166 v167 v168 v169 v170 v171 v172 v173 v174 v175 v176 v177 v178 v179 v180 v181 v182 v183 W9 hP
      have hb9 : Below wr.heap.size wr W9 := ⟨hP.kp.os.trans hbW.os, hP.kp.tape.trans hbW.tape, hP.kp.output.trans hbW.output, Nat.le_trans hbW.size hP.kp.size, fun j hj => (hP.kp.block j (by have := hbW.size; omega) (by omega)).trans (hbW.block j hj)⟩
      obtain ⟨⟨n9, p9, l9, c9, hB9⟩, -⟩ := hP
      have t0 := hB9.c0
      have t1 := hB9.c1
      have hfit := fit_any _ _ _ W9 hB9.2 (by omega)
      have hsucc : (List.range (c + 1)).map (fun c => sumE bk.l m c n) = ((List.range c).map fun c => sumE bk.l m c n) ++ [sumE bk.l m c n] := by rw [List.range_succ, List.map_append]; rfl
      obtain ⟨T, hT⟩ : ∃ T, T = (List.range c).map fun c => sumE bk.l m c n := ⟨_, rfl⟩
      have hTl : T.length ≤ 8 := by rw [hT]; simp; omega
      rw [← hT] at hsucc hS
      have hS9 := Lib.hid (hS.out.below hb9)
      replace hT := Lib.hid hT
      obtain ⟨S, hSd⟩ : ∃ S, S = sumE bk.l m c n := ⟨_, rfl⟩
      rw [← hSd] at hfit hsucc
      replace hSd := Lib.hid hSd
      replace hsucc := Lib.hid hsucc
      clear hB9 hS hS1
      by_cases hAm : Amt S
      · obtain ⟨f1, f2⟩ := fit_yes hAm
        rw [f1, f2] at hfit
        replace hfit := Lib.hid hfit
        replace hb9 := Lib.hid hb9
        replace hAm := Lib.hid hAm
        clear f1 f2
        have hnx : Hid (∀ (W : World) (hb : Below W9.heap.size W9 W) (o : Obj) (v' : Value) (w' : World), w'.ownsRow 0 2 1 v' (T.length + 1) (T.map (Value.int .i64) ++ [.int .i64 S]) → (W.alloc o).grownBy w' u12.ownBlock → (∀ g', v'.ownBlock = some g' → u12.ownBlock = some g' ∨ W.heap.size + 1 ≤ g') → IR wB w' v' (T ++ [S])) := Lib.hid fun W hb o v' w' h1 h2 h3 => (hS9.out.below hb).app h1 h2 h3
        have hpre := Lib.hid fun (W : World) (hb : Below W9.heap.size W9 W) o => (hS9.out.below hb).pre o
        have hbx := Lib.hid fun (W : World) => box2 S (heap_alloc_new W (.cells #[.int .i64 S] 2))
        go_wp2_with (first
          | (go_at_call 31; (with_reducible refine hfit.out.mono ?_); rintro e w5 ⟨rfl, hb5⟩; replace hb5 := Lib.hid hb5)
          | (at_builtin; refine wpList_app1 50 2 1 8 _ Tryz.underlying50 info2 (by rfl) (by omega) (by omega) rfl _ _ rfl rfl _ _ _ rfl (hpre.out w5 hb5.out _) ⟨w5.heap.size, 0, none⟩ [.int .i64 S] rfl rfl (hbx.out w5) (fun u hu => by obtain rfl := List.mem_singleton.1 hu; rfl) (by omega) ?_))
        intro v' w' hr' hg' hv'
        go_wp2_with fail
        go_roundw
        case rel => exact ⟨c + 1, by omega, by go_num, Lib.hid (fun c' hc' => by
            by_cases e : c' = c
            · subst e; rw [← hSd.out]; exact hAm.out
            · exact hA.out c' (by omega)), Lib.hid (by rw [hsucc.out]; exact hnx.out _ hb5.out _ _ _ hr' hg' hv')⟩
        case measure => simp [intOf]; omega
      · obtain ⟨f1, f2⟩ := fit_no hAm
        rw [f1, f2] at hfit
        replace hfit := Lib.hid hfit
        have hex : Hid (∃ c, c < nc ∧ ¬ Amt (sumE bk.l m c n)) := Lib.hid ⟨c, hcn, by rw [← hSd.out]; exact hAm⟩
        replace hb9 := Lib.hid (hS9.out.bl)
        replace hAm := Lib.hid hAm
        clear f1 f2
        go_wp2_with (go_at_call 31; (with_reducible refine hfit.out.mono ?_); rintro e w5 ⟨rfl, hb5⟩; replace hb5 := Lib.hid hb5)
        exact hE.out _ _ _ _ _ _ _ _ _ _ _ _ _ _ _ _ _ _ _ _ _ _ _ _ _ _ _ _ _ _ _ _ _ _ _ _ _ _ _ _ _ _ _ _ _ _ _ _ _ _ _ _ _ _ _ _ _ _ _ _ _ _ _ _ _ _ _ _ _ _ _ _ _ _ _ _ _ _ _ _ _ _ _ _ _ _ _ _ _ _ _ _ _ _ _ _ _ _ _ _ _ _ _ _ _ _ _ _ _ _ _ _ _ _ hex.out (hb9.out.trans (hb5.out.mono hb9.out.size))
    · obtain rfl : c = nc := by omega
      have zk : ¬ (c : Int) < (c : Int) := by omega
      go_wp2_with fail
      exact hK.out _ _ _ _ _ _ _ _ _ _ _ _ _ _ _ _ _ _ _ _ _ _ _ _ _ _ _ _ _ _ _ _ _ _ _ _ _ _ _ _ _ _ _ _ _ _ _ _ _ _ _ _ _ _ _ _ _ _ _ _ _ _ _ _ _ _ _ _ _ _ _ _ _ _ _ _ _ _ _ _ _ _ _ _ _ _ _ _ _ _ _ _ _ _ _ _ _ _ _ _ _ _ _ _ _ _ _ _ _ _ _ _ _ _ _ _ hA.out hS.out
end Go.Proofs.YthocnlalahknjaaGreat.Dd
