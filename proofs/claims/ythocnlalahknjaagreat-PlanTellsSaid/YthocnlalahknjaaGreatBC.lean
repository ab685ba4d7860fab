/- The reference's Behind. -/
import Derived.Test.YthocnlalahknjaaGreatBB
namespace Go.Proofs.YthocnlalahknjaaGreat.Dd
open Go.RowKit Go.Maps
set_option linter.unusedVariables false
set_option maxHeartbeats 4000000 in
set_option maxRecDepth 100000 in
theorem b2_any {Q : Exit → Act → World → Prop} (pd : Option Addr) (n cd : Nat) (now : Int) (l : List Du) (pp : Option Addr) (P cp : Nat) (rows : List (List Int)) (Mn Wn : Nat) (y0 : Value) (wB w : World)
    (hD : USeq wB (.slice pd n cd) l) (hn : n = l.length) (hn2 : n ≤ 4096) (hin : ∀ d ∈ l, In64 d.n) (h1n : ∀ d ∈ l, 1 ≤ d.n) (hN : NSeq wB (.slice pp P cp) rows) (hP : rows.length = P) (hP0 : P ≤ 4611686018427387904) (hr : ∀ r ∈ rows, r.length ≤ 4611686018427387904)
    (hW : Wn ≤ 40) (hMn : Mn ≤ 40) (hU : UO wB w y0 [])
    (u3 u4 u5 u6 u7 u10 u13 u14 u15 u16 u17 u18 u19 u20 u21 u22 u23 u24 u25 u26 u27 u28 u29 u30 u31 u32 u33 u34 u35 u36 u37 u38 u39 u40 u41 u42 u43 u44 u45 u46 u47 u48 u49 u50 u51 u52 u53 u54 u55 u56 u57 u58 u59 u60 u61 u62 u63 u64 u65 u66 u67 u68 u69 u70 u71 u72 u73 u74 u75 u76 u77 u78 u79 u80 u81 u82 u83 u84 u85 u86 u87 u88 u89 u90 u91 u92 u93 u94 u95 u96 u97 u98 u99 u100 u101 u102 u103 u104 u105 u106 u107 u108 u109 u110 u111 u112 u113 u114 u115 u116 u117 u118 u119 u120 u121 u122 u123 u124 u125 u126 u127 u128 u129 u130 u131 u132 u133 u134 u135 u136 u137 u138 u139 u140 u141 u142 u143 u144 u145 u146 u147 u148 u149 u150 u151 u152 u153 u154 u155 u156 u157 u158 u159 u160 u161 u162 u163 u164 u165 u166 u167 u168 u169 u170 u171 u172 u173 : Value)
    (hE : ∀ (v11 v12 v13 v14 v15 v16 v17 v71 v72 v73 v74 v75 v76 v77 v78 v79 v80 v81 v82 v83 v84 v85 v86 v87 v88 v89 v90 v91 v92 v93 v94 v95 v96 v97 v98 v99 v100 v101 v102 v103 v104 v105 v106 v107 v108 v109 v110 v111 v112 v113 v114 v115 v116 v117 v118 v119 v120 v121 v122 v123 v124 v125 v126 v127 v128 v129 v130 v131 v132 v133 v134 v135 v136 v137 v138 v139 v140 v141 v142 v143 v144 v145 v146 v147 v148 v149 v150 v151 v152 v153 v154 v155 v156 v157 v158 v159 v160 v161 v162 v163 v164 v165 v166 v167 v168 v169 v170 v171 v172 : Value) (W9 : World), (∃ m c, m < Mn + 1 ∧ c < Wn + 1 ∧ ¬ Amt (sumD l now m c l.length)) → Below wB.heap.size wB W9 → Q .ret ({ tmps := (Value.slice pd n cd :: Value.slice pp P cp :: Value.int .i64 now :: u3 :: u4 :: u5 :: Value.slice none 0 0 :: Value.int .i64 3 :: Value.int .i64 (Mn : Int) :: Value.int .i64 (Wn : Int) :: u10 :: v11 :: v12 :: v13 :: v14 :: v15 :: v16 :: v17 :: u18 :: u19 :: u20 :: u21 :: u22 :: u23 :: u24 :: u25 :: u26 :: u27 :: u28 :: u29 :: u30 :: u31 :: u32 :: u33 :: u34 :: u35 :: u36 :: u37 :: u38 :: u39 :: u40 :: u41 :: u42 :: u43 :: u44 :: u45 :: u46 :: u47 :: u48 :: u49 :: u50 :: u51 :: u52 :: u53 :: u54 :: u55 :: u56 :: u57 :: u58 :: u59 :: u60 :: u61 :: u62 :: u63 :: u64 :: u65 :: u66 :: u67 :: u68 :: u69 :: u70 :: v71 :: v72 :: v73 :: v74 :: v75 :: v76 :: v77 :: v78 :: v79 :: v80 :: v81 :: v82 :: v83 :: v84 :: v85 :: v86 :: v87 :: v88 :: v89 :: v90 :: v91 :: v92 :: v93 :: v94 :: v95 :: v96 :: v97 :: v98 :: v99 :: v100 :: v101 :: v102 :: v103 :: v104 :: v105 :: v106 :: v107 :: v108 :: v109 :: v110 :: v111 :: v112 :: v113 :: v114 :: v115 :: v116 :: v117 :: v118 :: v119 :: v120 :: v121 :: v122 :: v123 :: v124 :: v125 :: v126 :: v127 :: v128 :: v129 :: v130 :: v131 :: v132 :: v133 :: v134 :: v135 :: v136 :: v137 :: v138 :: v139 :: v140 :: v141 :: v142 :: v143 :: v144 :: v145 :: v146 :: v147 :: v148 :: v149 :: v150 :: v151 :: v152 :: v153 :: v154 :: v155 :: v156 :: v157 :: v158 :: v159 :: v160 :: v161 :: v162 :: v163 :: v164 :: v165 :: v166 :: v167 :: v168 :: v169 :: v170 :: v171 :: v172 :: u173 :: []).toArray, defers := [] } : Act) W9)
    (hK : ∀ (v6 v7 v11 v12 v13 v14 v15 v16 v17 v71 v72 v73 v74 v75 v76 v77 v78 v79 v80 v81 v82 v83 v84 v85 v86 v87 v88 v89 v90 v91 v92 v93 v94 v95 v96 v97 v98 v99 v100 v101 v102 v103 v104 v105 v106 v107 v108 v109 v110 v111 v112 v113 v114 v115 v116 v117 v118 v119 v120 v121 v122 v123 v124 v125 v126 v127 v128 v129 v130 v131 v132 v133 v134 v135 v136 v137 v138 v139 v140 v141 v142 v143 v144 v145 v146 v147 v148 v149 v150 v151 v152 v153 v154 v155 v156 v157 v158 v159 v160 v161 v162 v163 v164 v165 v166 v167 v168 v169 v170 v171 v172 : Value)  (W9 : World), (∀ m c, m < Mn + 1 → c < Wn + 1 → Amt (sumD l now m c l.length)) → UO wB W9 v11 (behM l now rows (Wn + 1) (Mn + 1)) → Q .normal ({ tmps := (Value.slice pd n cd :: Value.slice pp P cp :: Value.int .i64 now :: u3 :: u4 :: u5 :: v6 :: v7 :: Value.int .i64 (Mn : Int) :: Value.int .i64 (Wn : Int) :: u10 :: v11 :: v12 :: v13 :: v14 :: v15 :: v16 :: v17 :: u18 :: u19 :: u20 :: u21 :: u22 :: u23 :: u24 :: u25 :: u26 :: u27 :: u28 :: u29 :: u30 :: u31 :: u32 :: u33 :: u34 :: u35 :: u36 :: u37 :: u38 :: u39 :: u40 :: u41 :: u42 :: u43 :: u44 :: u45 :: u46 :: u47 :: u48 :: u49 :: u50 :: u51 :: u52 :: u53 :: u54 :: u55 :: u56 :: u57 :: u58 :: u59 :: u60 :: u61 :: u62 :: u63 :: u64 :: u65 :: u66 :: u67 :: u68 :: u69 :: u70 :: v71 :: v72 :: v73 :: v74 :: v75 :: v76 :: v77 :: v78 :: v79 :: v80 :: v81 :: v82 :: v83 :: v84 :: v85 :: v86 :: v87 :: v88 :: v89 :: v90 :: v91 :: v92 :: v93 :: v94 :: v95 :: v96 :: v97 :: v98 :: v99 :: v100 :: v101 :: v102 :: v103 :: v104 :: v105 :: v106 :: v107 :: v108 :: v109 :: v110 :: v111 :: v112 :: v113 :: v114 :: v115 :: v116 :: v117 :: v118 :: v119 :: v120 :: v121 :: v122 :: v123 :: v124 :: v125 :: v126 :: v127 :: v128 :: v129 :: v130 :: v131 :: v132 :: v133 :: v134 :: v135 :: v136 :: v137 :: v138 :: v139 :: v140 :: v141 :: v142 :: v143 :: v144 :: v145 :: v146 :: v147 :: v148 :: v149 :: v150 :: v151 :: v152 :: v153 :: v154 :: v155 :: v156 :: v157 :: v158 :: v159 :: v160 :: v161 :: v162 :: v163 :: v164 :: v165 :: v166 :: v167 :: v168 :: v169 :: v170 :: v171 :: v172 :: u173 :: []).toArray, defers := [] } : Act) W9) :
    Code.wp Tryz.prog ck2 Q ({ tmps := (Value.slice pd n cd :: Value.slice pp P cp :: Value.int .i64 now :: u3 :: u4 :: u5 :: u6 :: u7 :: Value.int .i64 (Mn : Int) :: Value.int .i64 (Wn : Int) :: u10 :: y0 :: Value.int .i64 0 :: u13 :: u14 :: u15 :: u16 :: u17 :: u18 :: u19 :: u20 :: u21 :: u22 :: u23 :: u24 :: u25 :: u26 :: u27 :: u28 :: u29 :: u30 :: u31 :: u32 :: u33 :: u34 :: u35 :: u36 :: u37 :: u38 :: u39 :: u40 :: u41 :: u42 :: u43 :: u44 :: u45 :: u46 :: u47 :: u48 :: u49 :: u50 :: u51 :: u52 :: u53 :: u54 :: u55 :: u56 :: u57 :: u58 :: u59 :: u60 :: u61 :: u62 :: u63 :: u64 :: u65 :: u66 :: u67 :: u68 :: u69 :: u70 :: u71 :: u72 :: u73 :: u74 :: u75 :: u76 :: u77 :: u78 :: u79 :: u80 :: u81 :: u82 :: u83 :: u84 :: u85 :: u86 :: u87 :: u88 :: u89 :: u90 :: u91 :: u92 :: u93 :: u94 :: u95 :: u96 :: u97 :: u98 :: u99 :: u100 :: u101 :: u102 :: u103 :: u104 :: u105 :: u106 :: u107 :: u108 :: u109 :: u110 :: u111 :: u112 :: u113 :: u114 :: u115 :: u116 :: u117 :: u118 :: u119 :: u120 :: u121 :: u122 :: u123 :: u124 :: u125 :: u126 :: u127 :: u128 :: u129 :: u130 :: u131 :: u132 :: u133 :: u134 :: u135 :: u136 :: u137 :: u138 :: u139 :: u140 :: u141 :: u142 :: u143 :: u144 :: u145 :: u146 :: u147 :: u148 :: u149 :: u150 :: u151 :: u152 :: u153 :: u154 :: u155 :: u156 :: u157 :: u158 :: u159 :: u160 :: u161 :: u162 :: u163 :: u164 :: u165 :: u166 :: u167 :: u168 :: u169 :: u170 :: u171 :: u172 :: u173 :: []).toArray, defers := [] } : Act) w := by
  replace hK := Lib.hid hK
  have h0 : Hid (UO wB w y0 (behM l now rows (Wn + 1) 0)) := Lib.hid hU
  replace hE := Lib.hid hE
  replace hD := Lib.hid hD
  replace hn := Lib.hid hn
  replace hin := Lib.hid hin
  replace hN := Lib.hid hN
  replace hP := Lib.hid hP
  replace hr := Lib.hid hr
  replace h1n := Lib.hid h1n
  clear hU
  conv => arg 2; whnf
  go_wp2_with fail
  go_loopw [11, 12] (fun u j wr => ∃ m : Nat, m ≤ Mn + 1 ∧ j = .int .i64 (m : Int) ∧ Hid (∀ m' c, m' < m → c < Wn + 1 → Amt (sumD l now m' c l.length)) ∧ Hid (UO wB wr u (behM l now rows (Wn + 1) m))) (fun _ j _ => Mn + 1 - (intOf j).toNat)
  case atStart => exact ⟨0, by omega, rfl, Lib.hid (fun m' c h => by omega), h0⟩
  case round =>
    obtain ⟨m, hm, rfl, hA, hS⟩ := hrel
    by_cases hmM : m ≤ Mn
    · have zm : (m : Int) ≤ (Mn : Int) := by omega
      have hsucc : Hid (behM l now rows (Wn + 1) (m + 1) = behM l now rows (Wn + 1) m ++ behR l now rows m (Wn + 1)) := Lib.hid (behM_succ _ _ _ _ _)
      have hle : Hid ((behM l now rows (Wn + 1) m).length ≤ 3000) := Lib.hid (by have := behM_le l now rows (Wn + 1) (by omega) m; omega)
      go_upto_block 4 with fail
      refine b4_any pd n cd now l pp P cp rows Wn m u11 (behM l now rows (Wn + 1) m) wB wr hD.out hn.out hn2 hin.out h1n.out hN.out hP.out hP0 hr.out hW hS.out hle.out _ _ _ _ _ _ _ _ _ _ _ _ _ _ _ _ _ _ _ _ _ _ _ _ _ _ _ _ _ _ _ _ _ _ _ _ _ _ _ _ _ _ _ _ _ _ _ _ _ _ _ _ _ _ _ _ _ _ _ _ _ _ _ _ _ _ _ _ _ _ _ _ _ _ _ _ _ _ _ _ _ _ _ _ _ _ _ _ _ _ _ _ _ _ _ _ _ _ _ _ _ _ _ _ _ _ _ _ _ _ _ _ _ _ _ _ _ _ _ _ _ _ _ _ _ _ _ _ _ _ _ _ _ _ _ _ _ _ _ _ _ _ _ _ _ _ _ _ _ _ _ _ _ _ _ _ _ _ _ _ _ _ _ _ _ _ _ ?_ ?_
      · intro v11 v13 v14 v15 v16 v17 v76 v77 v78 v79 v80 v81 v82 v83 v84 v85 v86 v87 v88 v89 v90 v91 v92 v93 v94 v95 v96 v97 v98 v99 v100 v101 v102 v103 v104 v105 v106 v107 v108 v109 v110 v111 v112 v113 v114 v115 v116 v117 v118 v119 v120 v121 v122 v123 v124 v125 v126 v127 v128 v129 v130 v131 v132 v133 v134 v135 v136 v137 v138 v139 v140 v141 v142 v143 v144 v145 v146 v147 v148 v149 v150 v151 v152 v153 v154 v155 v156 v157 v158 v159 v160 v161 v162 v163 v164 v165 v166 v167 v168 v169 v170 v171 v172 W9 hex hb
        obtain ⟨c, hc, hx⟩ := hex
        exact hE.out _ _ _ _ _ _ _ _ _ _ _ _ _ _ _ _ _ _ _ _ _ _ _ _ _ _ _ _ _ _ _ _ _ _ _ _ _ _ _ _ _ _ _ _ _ _ _ _ _ _ _ _ _ _ _ _ _ _ _ _ _ _ _ _ _ _ _ _ _ _ _ _ _ _ _ _ _ _ _ _ _ _ _ _ _ _ _ _ _ _ _ _ _ _ _ _ _ _ _ _ _ _ _ _ _ _ _ _ _ _ ⟨m, c, by omega, hc, hx⟩ hb
      intro v6 v7 v11 v13 v14 v15 v16 v17 v76 v77 v78 v79 v80 v81 v82 v83 v84 v85 v86 v87 v88 v89 v90 v91 v92 v93 v94 v95 v96 v97 v98 v99 v100 v101 v102 v103 v104 v105 v106 v107 v108 v109 v110 v111 v112 v113 v114 v115 v116 v117 v118 v119 v120 v121 v122 v123 v124 v125 v126 v127 v128 v129 v130 v131 v132 v133 v134 v135 v136 v137 v138 v139 v140 v141 v142 v143 v144 v145 v146 v147 v148 v149 v150 v151 v152 v153 v154 v155 v156 v157 v158 v159 v160 v161 v162 v163 v164 v165 v166 v167 v168 v169 v170 v171 v172 W9 hno hU9
      have hx : Hid (∀ m' c, m' < m + 1 → c < Wn + 1 → Amt (sumD l now m' c l.length)) := Lib.hid fun m' c hm' hc => by
        by_cases e : m' = m
        · subst e; exact hno c hc
        · exact hA.out m' c (by omega) hc
      have hU : Hid (UO wB W9 v11 (behM l now rows (Wn + 1) (m + 1))) := Lib.hid (by rw [hsucc.out]; exact hU9)
      clear hno hU9
      go_wp2_with fail
      go_roundw
      case rel => exact ⟨m + 1, by omega, by go_num, hx, hU⟩
      case measure => simp [intOf]; omega
    · obtain rfl : m = Mn + 1 := by omega
      have zk : ¬ ((Mn + 1 : Nat) : Int) ≤ (Mn : Int) := by omega
      go_wp2_with fail
      exact hK.out _ _ _ _ _ _ _ _ _ _ _ _ _ _ _ _ _ _ _ _ _ _ _ _ _ _ _ _ _ _ _ _ _ _ _ _ _ _ _ _ _ _ _ _ _ _ _ _ _ _ _ _ _ _ _ _ _ _ _ _ _ _ _ _ _ _ _ _ _ _ _ _ _ _ _ _ _ _ _ _ _ _ _ _ _ _ _ _ _ _ _ _ _ _ _ _ _ _ _ _ _ _ _ _ _ _ _ _ _ _ _ _ hA.out hS.out
theorem most_bound {l : List Du} (now : Int) (h : ∀ d ∈ l, d.m < 30) : ∀ k, 0 ≤ mostL l now k ∧ mostL l now k < 30
  | 0 => by simp [mostL]
  | k + 1 => by
    have h1 := most_bound now h k
    by_cases hk : k < l.length
    · rw [mostL_succ hk]; have := h _ (List.getElem_mem hk); split <;> omega
    · unfold mostL at h1 ⊢
      rw [List.take_of_length_le (by omega)] at h1 ⊢; exact h1
theorem wide_bound {l : List Du} (now : Int) (h : ∀ d ∈ l, d.c < 30) : ∀ k, 0 ≤ wideL l now k ∧ wideL l now k < 30
  | 0 => by simp [wideL]
  | k + 1 => by
    have h1 := wide_bound now h k
    by_cases hk : k < l.length
    · rw [wideL_succ hk]; have := h _ (List.getElem_mem hk); split <;> omega
    · unfold wideL at h1 ⊢
      rw [List.take_of_length_le (by omega)] at h1 ⊢; exact h1
/-- what the reference's Behind hands back -/
def RBeh (l : List Du) (now : Int) (rows : List (List Int)) (w' : World) (e : Ending) : Prop :=
  (l.any Du.wrong = true ∧ e = .returned (.tuple #[.slice none 0 0, .int .i64 1])) ∨
  (l.any Du.wrong = false ∧ (∃ m c, m < (mostL l now l.length).toNat + 1 ∧ c < (wideL l now l.length).toNat + 1 ∧ ¬ Amt (sumD l now m c l.length)) ∧ e = .returned (.tuple #[.slice none 0 0, .int .i64 3])) ∨
  (l.any Du.wrong = false ∧ (∀ m c, m < (mostL l now l.length).toNat + 1 → c < (wideL l now l.length).toNat + 1 → Amt (sumD l now m c l.length)) ∧
    ∃ u, e = .returned (.tuple #[u, .int .i64 0]) ∧ USeq w' u (behM l now rows ((wideL l now l.length).toNat + 1) ((mostL l now l.length).toNat + 1)))
set_option maxHeartbeats 4000000 in
set_option maxRecDepth 100000 in
theorem rbeh_any (pd : Option Addr) (n cd : Nat) (now : Int) (l : List Du) (pp : Option Addr) (P cp : Nat) (rows : List (List Int)) (w : World) (hD : USeq w (.slice pd n cd) l) (hn : n = l.length) (hn2 : n ≤ 4096) (hin : ∀ d ∈ l, DuIn d)
    (hm30 : ∀ d ∈ l, d.m < 30) (hc30 : ∀ d ∈ l, d.c < 30) (hN : NSeq w (.slice pp P cp) rows) (hP : rows.length = P) (hP0 : P ≤ 4611686018427387904) (hr : ∀ r ∈ rows, r.length ≤ 4611686018427387904) :
    Calls Tryz.prog 16 #[.slice pd n cd, .slice pp P cp, .int .i64 now] w fun e w' => Below w.heap.size w w' ∧ RBeh l now rows w' e := by
  have z1 : ¬ (4096 : Int) < (n : Int) := by omega
  have hmb := most_bound now hm30 l.length
  have hwb := wide_bound now hc30 l.length
  obtain ⟨Mn, hMn⟩ : ∃ M : Nat, mostL l now l.length = M := ⟨(mostL l now l.length).toNat, by omega⟩
  obtain ⟨Wn, hWn⟩ : ∃ M : Nat, wideL l now l.length = M := ⟨(wideL l now l.length).toNat, by omega⟩
  rw [hMn] at hmb
  rw [hWn] at hwb
  obtain ⟨Z, hZ⟩ : ∃ Z : World → Ending → Prop, Z = RBeh l now rows := ⟨_, rfl⟩
  rw [← hZ]
  have hz : ∀ w' e, Z w' e = RBeh l now rows w' e := fun w' e => by rw [hZ]
  unfold RBeh at hz
  rw [hMn, hWn] at hz
  simp only [Int.toNat_natCast] at hz
  have hz1 : Hid (l.any Du.wrong = true → ∀ w', Z w' (.returned (.tuple #[.slice none 0 0, .int .i64 1]))) := Lib.hid fun h w' => by rw [hz]; exact .inl ⟨h, rfl⟩
  have hz2 : Hid (l.any Du.wrong = false → (∃ m c, m < Mn + 1 ∧ c < Wn + 1 ∧ ¬ Amt (sumD l now m c l.length)) → ∀ w', Z w' (.returned (.tuple #[.slice none 0 0, .int .i64 3]))) := Lib.hid fun h h2 w' => by rw [hz]; exact .inr (.inl ⟨h, h2, rfl⟩)
  have hz3 : Hid (l.any Du.wrong = false → (∀ m c, m < Mn + 1 → c < Wn + 1 → Amt (sumD l now m c l.length)) → ∀ w' u, USeq w' u (behM l now rows (Wn + 1) (Mn + 1)) → Z w' (.returned (.tuple #[u, .int .i64 0]))) := Lib.hid fun h h2 w' u hu => by rw [hz]; exact .inr (.inr ⟨h, h2, u, rfl, hu⟩)
  clear hz hZ
  replace hMn := Lib.hid hMn
  replace hWn := Lib.hid hWn
  replace hN := Lib.hid hN
  replace hP := Lib.hid hP
  replace hr := Lib.hid hr
  replace hin := Lib.hid hin
  replace hD := Lib.hid hD
  replace hn := Lib.hid hn
  clear hm30 hc30
  go_enter Tryz.func16, Tryz.ntmps16
  go_upto_block 0 with fail
  refine b0_any pd n cd now l w hD.out hn.out hn2 _ _ _ _ _ _ _ _ _ _ _ _ _ _ _ _ _ _ _ _ _ _ _ _ _ _ _ _ _ _ _ _ _ _ _ _ _ _ _ _ _ _ _ _ _ _ _ _ _ _ _ _ _ _ _ _ _ _ _ _ _ _ _ _ _ _ _ _ _ _ _ _ _ _ _ _ _ _ _ _ _ _ _ _ _ _ _ _ _ _ _ _ _ _ _ _ _ _ _ _ _ _ _ _ _ _ _ _ _ _ _ _ _ _ _ _ _ _ _ _ _ _ _ _ _ _ _ _ _ _ _ _ _ _ _ _ _ _ _ _ _ _ _ _ _ _ _ _ _ _ _ _ _ _ _ _ _ _ _ _ _ _ _ _ _ _ _ _ _ ?_ ?_
  · rintro v8 v9 v10 v21 v22 v23 v24 v25 v26 v27 v28 v29 v30 v31 v32 v33 v34 v35 v36 v37 v38 v39 v40 v41 v42 v43 v44 v45 v46 v47 v48 v49 v50 v51 v52 v53 v54 v55 v56 v57 v58 v59 v60 v61 v62 v63 v64 v65 v66 v67 v68 v69 W9 hex rfl
    go_ret2
    exact ⟨Below.refl _ _, hz1.out hex _⟩
  rintro v6 v7 v10 v21 v22 v23 v24 v25 v26 v27 v28 v29 v30 v31 v32 v33 v34 v35 v36 v37 v38 v39 v40 v41 v42 v43 v44 v45 v46 v47 v48 v49 v50 v51 v52 v53 v54 v55 v56 v57 v58 v59 v60 v61 v62 v63 v64 v65 v66 v67 v68 v69 W9 hno rfl
  rw [hn.out, hMn.out, hWn.out]
  have h1n : ∀ d ∈ l, 1 ≤ d.n := fun d hd => by
    rw [List.any_eq_false] at hno
    have := hno d hd
    unfold Du.wrong at this
    simp only [Bool.not_eq_true, Bool.or_eq_false_iff, decide_eq_false_iff_not] at this
    omega
  replace hno := Lib.hid hno
  replace h1n := Lib.hid h1n
  have hDn : Hid (USeq w (.slice pd l.length cd) l) := Lib.hid (by rw [← hn.out]; exact hD.out)
  go_upto_block 2 with fail
  refine b2_any pd l.length cd now l pp P cp rows Mn Wn _ w _ hDn.out rfl (by have := hn.out; omega) (fun d hd => (hin.out d hd).2.2.2) h1n.out hN.out hP.out hP0 hr.out (by omega) (by omega) (UO.made w) _ _ _ _ _ _ _ _ _ _ _ _ _ _ _ _ _ _ _ _ _ _ _ _ _ _ _ _ _ _ _ _ _ _ _ _ _ _ _ _ _ _ _ _ _ _ _ _ _ _ _ _ _ _ _ _ _ _ _ _ _ _ _ _ _ _ _ _ _ _ _ _ _ _ _ _ _ _ _ _ _ _ _ _ _ _ _ _ _ _ _ _ _ _ _ _ _ _ _ _ _ _ _ _ _ _ _ _ _ _ _ _ _ _ _ _ _ _ _ _ _ _ _ _ _ _ _ _ _ _ _ _ _ _ _ _ _ _ _ _ _ _ _ _ _ _ _ _ _ _ _ _ _ _ _ _ _ _ _ _ _ _ _ _ _ _ _ ?_ ?_
  · intro v11 v12 v13 v14 v15 v16 v17 v71 v72 v73 v74 v75 v76 v77 v78 v79 v80 v81 v82 v83 v84 v85 v86 v87 v88 v89 v90 v91 v92 v93 v94 v95 v96 v97 v98 v99 v100 v101 v102 v103 v104 v105 v106 v107 v108 v109 v110 v111 v112 v113 v114 v115 v116 v117 v118 v119 v120 v121 v122 v123 v124 v125 v126 v127 v128 v129 v130 v131 v132 v133 v134 v135 v136 v137 v138 v139 v140 v141 v142 v143 v144 v145 v146 v147 v148 v149 v150 v151 v152 v153 v154 v155 v156 v157 v158 v159 v160 v161 v162 v163 v164 v165 v166 v167 v168 v169 v170 v171 v172 W5 hex hb
    go_ret2
    exact ⟨hb, hz2.out hno.out hex _⟩
  intro v6 v7 v11 v12 v13 v14 v15 v16 v17 v71 v72 v73 v74 v75 v76 v77 v78 v79 v80 v81 v82 v83 v84 v85 v86 v87 v88 v89 v90 v91 v92 v93 v94 v95 v96 v97 v98 v99 v100 v101 v102 v103 v104 v105 v106 v107 v108 v109 v110 v111 v112 v113 v114 v115 v116 v117 v118 v119 v120 v121 v122 v123 v124 v125 v126 v127 v128 v129 v130 v131 v132 v133 v134 v135 v136 v137 v138 v139 v140 v141 v142 v143 v144 v145 v146 v147 v148 v149 v150 v151 v152 v153 v154 v155 v156 v157 v158 v159 v160 v161 v162 v163 v164 v165 v166 v167 v168 v169 v170 v171 v172 W5 hAm hU
  replace hAm := Lib.hid hAm
  replace hU := Lib.hid hU
  go_wp2_with fail
  go_ret2
  exact ⟨hU.out.bl, hz3.out hno.out hAm.out _ _ hU.out.seq⟩
end Go.Proofs.YthocnlalahknjaaGreat.Dd
