/- PlanWhole: the rows of what members must pay in.
  Are nets more than are looked at? -/
import Derived.Test.YthocnlalahknjaaGreatQWcd
namespace Go.Proofs.YthocnlalahknjaaGreat.Dd
open Go.RowKit Go.Maps
set_option linter.unusedVariables false

/-- what a member must pay in -/
def rowP (row : List Int) : List Int := (List.range row.length).map fun c => max (-(row.getD c 0)) 0
def rowsP (rows : List (List Int)) (i : Nat) : List (List Int) := (List.range i).map fun m => rowP (rows.getD m [])
theorem rowsP_succ (rows : List (List Int)) (i : Nat) : rowsP rows (i + 1) = rowsP rows i ++ [rowP (rows.getD i [])] := by unfold rowsP; rw [List.range_succ, List.map_append]; rfl
theorem rowsP_len (rows : List (List Int)) (i : Nat) : (rowsP rows i).length = i := by simp [rowsP]
set_option maxHeartbeats 4000000 in
set_option maxRecDepth 100000 in
theorem mat_any {Q : Exit → Act → World → Prop} (pn : Option Addr) (M cn : Nat) (rows : List (List Int)) (p : Option Addr) (n cap : Nat) (L : List Du) (A : Nat → Nat → Nat → List Int) (w : World)
    (hN : NSeq w (.slice pn M cn) rows) (hM : M = rows.length) (hM16 : M ≤ 16) (h8 : ∀ r ∈ rows, r.length ≤ 8) (h : USeq w (.slice p n cap) L) (hn : n = L.length) (hlen : n ≤ 4096)
    (hx : ∀ r ∈ rows, ∀ x ∈ r, -9223372036854775808 < x)
    (hF : ∀ m c, m < M → c < (rows.getD m []).length → Fil L m c (A m c) (max (-((rows.getD m []).getD c 0)) 0))
    (u1 u2 u3 u4 u5 u6 u8 u10 u11 u12 u13 u14 u15 u16 u17 u18 u19 u20 u21 u22 u23 u24 u25 u26 u27 u28 u29 u30 u31 u32 u33 u34 u35 u36 u37 u38 u39 u40 u41 u42 u43 u44 u45 u46 u47 u48 u49 u52 u53 u54 u55 u56 u57 u58 u59 u60 u61 u62 u63 u64 u65 u66 u67 u68 u69 u70 u71 u72 u73 u74 u75 u76 u77 u78 u79 u80 u81 u82 u83 u84 u85 u86 u87 u88 u89 u90 u91 u92 u93 u94 u95 u96 u97 u98 u99 u100 u101 u102 u103 u104 u105 u106 u107 u108 u109 u110 u111 u112 u113 u114 u115 u116 u117 u118 u119 u120 u121 u122 u123 u124 u125 u126 u127 u128 u129 u130 u131 u132 u133 u134 u135 u136 u137 u138 u139 u140 u141 u142 u143 u144 u145 u146 u147 u148 u149 u150 u151 u152 u153 u154 u155 u156 u157 u158 u159 u160 u161 u162 u163 u164 u165 u166 u167 u168 u169 u170 u171 u172 u173 u174 u175 u176 u177 u178 u179 u180 u181 u182 u183 u184 u185 u186 u187 u188 u189 u190 u191 u192 u193 u194 u195 u196 u197 u198 u199 u200 u201 u202 u203 u204 u205 u206 u207 u208 u209 u210 u211 u212 u213 u214 u215 u216 u217 u218 u219 u220 u221 u222 u223 u224 u225 u226 u227 u228 u229 u230 u231 u232 u233 u234 u235 u236 u237 u238 : Value)
    (hK : ∀ (v6 v9 v10 v11 v12 v13 v14 v16 v17 v18 v51 v52 v53 v54 v55 v56 v57 v58 v59 v60 v61 v62 v63 v64 v65 v66 v67 v68 v69 v70 v71 v72 v73 v74 v75 v76 v77 v78 v79 v80 v81 v82 v83 v84 v85 v86 v87 v88 v89 v90 v91 v92 v93 v94 v95 v96 v97 v98 v99 v100 v101 v102 v103 v104 v105 v106 v107 v108 v109 v110 v111 v112 v113 v114 v115 v116 v117 v118 v119 v120 v121 v122 v123 v124 v125 v126 v127 v128 : Value)  (W9 : World), PR w W9 v9 (rowsP rows M) → Q .normal ({ tmps := (Value.slice pn M cn :: u1 :: u2 :: u3 :: u4 :: u5 :: v6 :: Value.slice p n cap :: u8 :: v9 :: v10 :: v11 :: v12 :: v13 :: v14 :: u15 :: v16 :: v17 :: v18 :: u19 :: u20 :: u21 :: u22 :: u23 :: u24 :: u25 :: u26 :: u27 :: u28 :: u29 :: u30 :: u31 :: u32 :: u33 :: u34 :: u35 :: u36 :: u37 :: u38 :: u39 :: u40 :: u41 :: u42 :: u43 :: u44 :: u45 :: u46 :: u47 :: u48 :: u49 :: Value.int .i64 (M : Int) :: v51 :: v52 :: v53 :: v54 :: v55 :: v56 :: v57 :: v58 :: v59 :: v60 :: v61 :: v62 :: v63 :: v64 :: v65 :: v66 :: v67 :: v68 :: v69 :: v70 :: v71 :: v72 :: v73 :: v74 :: v75 :: v76 :: v77 :: v78 :: v79 :: v80 :: v81 :: v82 :: v83 :: v84 :: v85 :: v86 :: v87 :: v88 :: v89 :: v90 :: v91 :: v92 :: v93 :: v94 :: v95 :: v96 :: v97 :: v98 :: v99 :: v100 :: v101 :: v102 :: v103 :: v104 :: v105 :: v106 :: v107 :: v108 :: v109 :: v110 :: v111 :: v112 :: v113 :: v114 :: v115 :: v116 :: v117 :: v118 :: v119 :: v120 :: v121 :: v122 :: v123 :: v124 :: v125 :: v126 :: v127 :: v128 :: u129 :: u130 :: u131 :: u132 :: u133 :: u134 :: u135 :: u136 :: u137 :: u138 :: u139 :: u140 :: u141 :: u142 :: u143 :: u144 :: u145 :: u146 :: u147 :: u148 :: u149 :: u150 :: u151 :: u152 :: u153 :: u154 :: u155 :: u156 :: u157 :: u158 :: u159 :: u160 :: u161 :: u162 :: u163 :: u164 :: u165 :: u166 :: u167 :: u168 :: u169 :: u170 :: u171 :: u172 :: u173 :: u174 :: u175 :: u176 :: u177 :: u178 :: u179 :: u180 :: u181 :: u182 :: u183 :: u184 :: u185 :: u186 :: u187 :: u188 :: u189 :: u190 :: u191 :: u192 :: u193 :: u194 :: u195 :: u196 :: u197 :: u198 :: u199 :: u200 :: u201 :: u202 :: u203 :: u204 :: u205 :: u206 :: u207 :: u208 :: u209 :: u210 :: u211 :: u212 :: u213 :: u214 :: u215 :: u216 :: u217 :: u218 :: u219 :: u220 :: u221 :: u222 :: u223 :: u224 :: u225 :: u226 :: u227 :: u228 :: u229 :: u230 :: u231 :: u232 :: u233 :: u234 :: u235 :: u236 :: u237 :: u238 :: []).toArray, defers := [] } : Act) W9) :
    Code.wp Tryz.prog cw0 Q ({ tmps := (Value.slice pn M cn :: u1 :: u2 :: u3 :: u4 :: u5 :: u6 :: Value.slice p n cap :: u8 :: Value.slice none 0 0 :: u10 :: u11 :: u12 :: u13 :: u14 :: u15 :: u16 :: u17 :: u18 :: u19 :: u20 :: u21 :: u22 :: u23 :: u24 :: u25 :: u26 :: u27 :: u28 :: u29 :: u30 :: u31 :: u32 :: u33 :: u34 :: u35 :: u36 :: u37 :: u38 :: u39 :: u40 :: u41 :: u42 :: u43 :: u44 :: u45 :: u46 :: u47 :: u48 :: u49 :: Value.int .i64 (M : Int) :: Value.int .i64 0 :: u52 :: u53 :: u54 :: u55 :: u56 :: u57 :: u58 :: u59 :: u60 :: u61 :: u62 :: u63 :: u64 :: u65 :: u66 :: u67 :: u68 :: u69 :: u70 :: u71 :: u72 :: u73 :: u74 :: u75 :: u76 :: u77 :: u78 :: u79 :: u80 :: u81 :: u82 :: u83 :: u84 :: u85 :: u86 :: u87 :: u88 :: u89 :: u90 :: u91 :: u92 :: u93 :: u94 :: u95 :: u96 :: u97 :: u98 :: u99 :: u100 :: u101 :: u102 :: u103 :: u104 :: u105 :: u106 :: u107 :: u108 :: u109 :: u110 :: u111 :: u112 :: u113 :: u114 :: u115 :: u116 :: u117 :: u118 :: u119 :: u120 :: u121 :: u122 :: u123 :: u124 :: u125 :: u126 :: u127 :: u128 :: u129 :: u130 :: u131 :: u132 :: u133 :: u134 :: u135 :: u136 :: u137 :: u138 :: u139 :: u140 :: u141 :: u142 :: u143 :: u144 :: u145 :: u146 :: u147 :: u148 :: u149 :: u150 :: u151 :: u152 :: u153 :: u154 :: u155 :: u156 :: u157 :: u158 :: u159 :: u160 :: u161 :: u162 :: u163 :: u164 :: u165 :: u166 :: u167 :: u168 :: u169 :: u170 :: u171 :: u172 :: u173 :: u174 :: u175 :: u176 :: u177 :: u178 :: u179 :: u180 :: u181 :: u182 :: u183 :: u184 :: u185 :: u186 :: u187 :: u188 :: u189 :: u190 :: u191 :: u192 :: u193 :: u194 :: u195 :: u196 :: u197 :: u198 :: u199 :: u200 :: u201 :: u202 :: u203 :: u204 :: u205 :: u206 :: u207 :: u208 :: u209 :: u210 :: u211 :: u212 :: u213 :: u214 :: u215 :: u216 :: u217 :: u218 :: u219 :: u220 :: u221 :: u222 :: u223 :: u224 :: u225 :: u226 :: u227 :: u228 :: u229 :: u230 :: u231 :: u232 :: u233 :: u234 :: u235 :: u236 :: u237 :: u238 :: []).toArray, defers := [] } : Act) w := by
  replace hK := Lib.hid hK
  have h0 : Hid (PR w w (.slice none 0 0) (rowsP rows 0)) := Lib.hid (PR.nil w)
  replace h := Lib.hid h
  replace hN := Lib.hid hN
  replace hn := Lib.hid hn
  replace hM := Lib.hid hM
  replace hx := Lib.hid hx
  replace h8 := Lib.hid h8
  replace hF := Lib.hid hF
  conv => arg 2; whnf
  go_wp2_with fail
  go_loopw [9, 51] (fun u i wr => ∃ m : Nat, m ≤ M ∧ i = .int .i64 (m : Int) ∧ Hid (PR w wr u (rowsP rows m))) (fun _ i _ => M - (intOf i).toNat)
  case atStart => exact ⟨0, by omega, rfl, h0⟩
  case round =>
    obtain ⟨m, hm, rfl, hS⟩ := hrel
    by_cases hmM : m < M
    · have zm : (m : Int) < (M : Int) := by omega
      have hml : m < rows.length := by have := hM.out; omega
      have hFm := fun c => hF.out m c hmM
      obtain ⟨pn1, cn1, en, hrows⟩ := (hN.out.kept hS.out.bl)
      obtain ⟨rfl, -, rfl⟩ : pn = pn1 ∧ M = rows.length ∧ cn = cn1 := by injection en with x1 x2 x3; exact ⟨x1, x2, x3⟩
      obtain ⟨b, off, rfl, hlt, hall⟩ := hrows.resolve_left (by rintro rfl; simp at hml)
      obtain ⟨pr, cr, hcell, hs⟩ := hall m hml
      have e1 : rows.getD m [] = rows[m] := by rw [List.getD_eq_getElem?_getD, List.getElem?_eq_getElem hml]; rfl
      have hx1 := hx.out _ (List.getElem_mem hml)
      have h81 := h8.out _ (List.getElem_mem hml)
      have hsucc := rowsP_succ rows m
      have hRl := rowsP_len rows m
      rw [e1] at hFm hsucc
      generalize rows[m] = row at *
      obtain ⟨k, hk⟩ : ∃ k, k = row.length := ⟨_, rfl⟩
      rw [← hk] at hs hcell h81
      have hrd : ∀ c, c < k → -9223372036854775808 < row.getD c 0 := fun c hc => hx1 _ (by rw [List.getD_eq_getElem?_getD, List.getElem?_eq_getElem (by omega)]; exact List.getElem_mem _)
      obtain ⟨T, hT⟩ : ∃ T, T = rowsP rows m := ⟨_, rfl⟩
      rw [← hT] at hS hsucc hRl
      have hUw := Lib.hid (h.out.kept hS.out.bl)
      have hFk : ∀ c, c < k → Fil L m c (A m c) (max (-(row.getD c 0)) 0) := fun c hc => hFm c (by omega)
      clear hall hFm hx1 hrows
      replace en := True.intro
      replace e1 := True.intro
      replace hT := Lib.hid hT
      replace hsucc := Lib.hid hsucc
      replace hRl := Lib.hid hRl
      replace hk := Lib.hid hk
      replace hs := Lib.hid hs
      replace hrd := Lib.hid hrd
      replace hFk := Lib.hid hFk
      go_upto_block 2 with fail
      refine row_any p n cap m L pr k cr row (A m) wr hUw.out hn.out hlen hs.out h81 hrd.out hFk.out _ _ _ _ _ _ _ _ _ _ _ _ _ _ _ _ _ _ _ _ _ _ _ _ _ _ _ _ _ _ _ _ _ _ _ _ _ _ _ _ _ _ _ _ _ _ _ _ _ _ _ _ _ _ _ _ _ _ _ _ _ _ _ _ _ _ _ _ _ _ _ _ _ _ _ _ _ _ _ _ _ _ _ _ _ _ _ _ _ _ _ _ _ _ _ _ _ _ _ _ _ _ _ _ _ _ _ _ _ _ _ _ _ _ _ _ _ _ _ _ _ _ _ _ _ _ _ _ _ _ _ _ _ _ _ _ _ _ _ _ _ _ _ _ _ _ _ _ _ _ _ _ _ _ _ _ _ _ _ _ _ _ _ _ _ _ _ _ _ _ _ _ _ _ _ _ _ _ _ _ _ _ _ _ _ _ _ _ _ _ _ _ _ _ _ _ _ _ _ _ _ _ _ _ _ _ _ _ _ _ _ _ _ _ _ _ _ _ _ _ _ _ _ _ _ _ _ _ _ _ _ _ _ ?_
      intro v6 v11 v12 v13 v14 v16 v17 v18 v59 v60 v61 v62 v63 v64 v65 v66 v67 v68 v69 v70 v71 v72 v73 v74 v75 v76 v77 v78 v79 v80 v81 v82 v83 v84 v85 v86 v87 v88 v89 v90 v91 v92 v93 v94 v95 v96 v97 v98 v99 v100 v101 v102 v103 v104 v105 v106 v107 v108 v109 v110 v111 v112 v113 v114 v115 v116 v117 v118 v119 v120 v121 v122 v123 W9 hI
      have hrp : ((List.range k).map fun c => max (-(row.getD c 0)) 0) = rowP row := by unfold rowP; rw [hk.out]
      rw [hrp] at hI
      have hb9 := hI.bl
      obtain ⟨pp, cc, hpv, -, -, -⟩ := orow_shape hI.row
      subst hpv
      have hpl : (rowP row).length = k := by unfold rowP; simp; exact hk.out.symm
      rw [hpl]
      have hpre := hS.out.pre hb9 (.cells #[.slice pp k cc] 50)
      obtain ⟨vs, hr0, hnx⟩ := hpre
      rw [hpl] at hI
      have hnx2 := Lib.hid fun v' w' => hnx (.slice pp k cc) (rowP row) v' w' hI
      have hbx : Hid (∀ (j : Nat) (u : Value), [Value.slice pp k cc][j]? = some u → (W9.alloc (.cells #[.slice pp k cc] 50)).cell? ((⟨W9.heap.size, 0, none⟩ : Addr).add j) = some u) := Lib.hid fun j u hu => by
        match j with
        | 0 => injection hu with hu; rw [← hu]; exact obj_cell (heap_alloc_new W9 (.cells #[.slice pp k cc] 50)) rfl
        | j + 1 => simp at hu
      replace hr0 := Lib.hid hr0
      clear hnx hrp hI hS hpl
      go_wp2_with (at_builtin; refine wpList_app1 28 50 1 24 _ Tryz.underlying28 info50 (by rfl) (by omega) (by omega) rfl _ _ rfl rfl _ _ _ rfl hr0.out ⟨W9.heap.size, 0, none⟩ [.slice pp k cc] rfl rfl hbx.out (fun u hu => by obtain rfl := List.mem_singleton.1 hu; rfl) (by have := hRl.out; omega) ?_)
      intro v' w' hr' hg' hv'
      go_wp2_with fail
      go_roundw
      case rel => exact ⟨m + 1, by omega, by go_num, Lib.hid (by rw [hsucc.out]; exact hnx2.out _ _ hr' hg' hv')⟩
      case measure => simp [intOf]; omega
    · obtain rfl : m = M := by omega
      have zk : ¬ (m : Int) < (m : Int) := by omega
      go_wp2_with fail
      exact hK.out _ _ _ _ _ _ _ _ _ _ _ _ _ _ _ _ _ _ _ _ _ _ _ _ _ _ _ _ _ _ _ _ _ _ _ _ _ _ _ _ _ _ _ _ _ _ _ _ _ _ _ _ _ _ _ _ _ _ _ _ _ _ _ _ _ _ _ _ _ _ _ _ _ _ _ _ _ _ _ _ _ _ _ _ _ _ _ _ _ hS.out
end Go.Proofs.YthocnlalahknjaaGreat.Dd
namespace Go.Proofs.YthocnlalahknjaaGreat.Dd
open Go.RowKit Go.Maps
set_option linter.unusedVariables false
def largeN (rows : List (List Int)) : Bool := rows.any (fun r => decide (20 < r.length)) || decide (40 < rows.length)
set_option maxHeartbeats 2000000 in
set_option maxRecDepth 100000 in
theorem large_any (v : Value) (rows : List (List Int)) (w : World) (h : NSeq w v rows) (hlen : rows.length ≤ 4611686018427387904) (hw : ∀ r ∈ rows, r.length ≤ 4611686018427387904) :
    Calls Tryz.prog 12 #[v] w fun e w' => e = .returned (.bool (largeN rows)) ∧ w' = w := by
  obtain ⟨a, cap, rfl, hrd⟩ := h
  obtain ⟨R, hR⟩ : ∃ R, R = largeN rows := ⟨_, rfl⟩
  rw [← hR]
  unfold largeN at hR
  obtain ⟨n, hn⟩ : ∃ n, n = rows.length := ⟨_, rfl⟩
  rw [← hn] at hlen hR ⊢
  replace hrd := Lib.hid hrd
  replace hn := Lib.hid hn
  replace hw := Lib.hid hw
  have hyes : Hid (∀ k (hk : k < rows.length), 20 < (rows[k]).length → R = true) := Lib.hid fun k hk hh => by
    rw [hR, List.any_eq_true.2 ⟨rows[k], List.getElem_mem hk, decide_eq_true hh⟩]; rfl
  have hno : Hid ((∀ k (hk : k < rows.length), ¬ 20 < (rows[k]).length) → R = decide (40 < n)) := Lib.hid fun hall => by
    rw [hR, (List.any_eq_false).2, Bool.false_or]
    intro r hr
    obtain ⟨i, hi, rfl⟩ := List.mem_iff_getElem.1 hr
    rw [Bool.not_eq_true]; exact decide_eq_false (hall i hi)
  replace hR := Lib.hid hR
  go_enter Tryz.func12, Tryz.ntmps12
  go_wp2_with fail
  go_loopw [6] (fun i wr => ∃ k : Nat, k ≤ n ∧ i = .int .i64 (k : Int) ∧ Hid (∀ j (hj : j < rows.length), j < k → ¬ 20 < (rows[j]).length) ∧ wr = w) (fun i _ => n - (intOf i).toNat)
  case atStart => exact ⟨0, by omega, rfl, Lib.hid (fun j _ hj => by omega), rfl⟩
  case round =>
    obtain ⟨k, hk, rfl, hS, rfl⟩ := hrel
    by_cases hkn : k < n
    · have hkl : k < rows.length := by have := hn.out; omega
      have zk : (k : Int) < (n : Int) := by omega
      obtain ⟨b, off, rfl, hlt, hall⟩ := hrd.out.resolve_left (by rintro rfl; simp at hkl)
      obtain ⟨p, c2, hcell, hs⟩ := hall k hkl
      have hlk := hw.out _ (List.getElem_mem hkl)
      have hy := hyes.out k hkl
      have hnx : Hid (¬ 20 < (rows[k]).length → ∀ j (hj : j < rows.length), j < k + 1 → ¬ 20 < (rows[j]).length) := Lib.hid fun hh j hj hjk => by
        by_cases e : j = k
        · subst e; exact hh
        · exact hS.out j hj (by omega)
      clear hall
      generalize (rows[k]).length = r at *
      by_cases h20 : 20 < r
      · have z : (20 : Int) < (r : Int) := by omega
        have hRt := hy h20
        replace hRt := Lib.hid hRt
        clear hy
        go_wp2_with fail
        go_ret
        exact ⟨by rw [hRt.out]; rfl, rfl⟩
      · have z : ¬ (20 : Int) < (r : Int) := by omega
        have hx2 := Lib.hid (hnx.out h20)
        clear hy
        go_wp2_with fail
        go_roundw
        case rel => exact ⟨k + 1, by omega, by go_num, hx2, by trivial⟩
        case measure => simp [intOf]; omega
    · obtain rfl : k = n := by omega
      have zk : ¬ (k : Int) < (k : Int) := by omega
      have hRe : R = decide (40 < k) := hno.out fun j hj => hS.out j hj (by have := hn.out; omega)
      by_cases h40 : 40 < k
      · have z : (40 : Int) < (k : Int) := by omega
        rw [decide_eq_true h40] at hRe
        replace hRe := Lib.hid hRe
        go_wp2_with fail
        go_ret
        exact ⟨by rw [hRe.out]; rfl, rfl⟩
      · have z : ¬ (40 : Int) < (k : Int) := by omega
        rw [decide_eq_false h40] at hRe
        replace hRe := Lib.hid hRe
        go_wp2_with fail
        go_ret
        exact ⟨by rw [hRe.out]; rfl, rfl⟩
end Go.Proofs.YthocnlalahknjaaGreat.Dd
