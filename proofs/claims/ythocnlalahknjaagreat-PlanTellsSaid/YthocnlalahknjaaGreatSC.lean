/- The reference's Schedule. -/
import Derived.Test.YthocnlalahknjaaGreatSB
namespace Go.Proofs.YthocnlalahknjaaGreat.Dd
open Go.RowKit Go.Maps
set_option linter.unusedVariables false
def noMin (rows : List (List Int)) (M : Nat) : Prop := ∀ m c, m < M → c < (rows.getD m []).length → (rows.getD m []).getD c 0 ≠ -9223372036854775808
def someMin (rows : List (List Int)) : Prop := ∃ m c, m < rows.length ∧ c < (rows.getD m []).length ∧ (rows.getD m []).getD c 0 = -9223372036854775808
theorem len8 {rows : List (List Int)} (h8 : ∀ r ∈ rows, r.length ≤ 8) (m : Nat) : (rows.getD m []).length ≤ 8 := by
  rw [List.getD_eq_getElem?_getD]
  by_cases h : m < rows.length
  · rw [List.getElem?_eq_getElem h]; exact h8 _ (List.getElem_mem h)
  · rw [List.getElem?_eq_none (by omega)]; simp
set_option maxHeartbeats 4000000 in
set_option maxRecDepth 100000 in
theorem s6_any {Q : Exit → Act → World → Prop} (pn : Option Addr) (M cn : Nat) (rows : List (List Int)) (pz : Option Addr) (n cz : Nat) (zs : List Int) (y0 : Value) (i : Nat) (l0 : List Du) (wB w : World)
    (hN : NSeq wB (.slice pn M cn) rows) (hM : M = rows.length) (hM16 : M ≤ 16) (h8 : ∀ r ∈ rows, r.length ≤ 8) (hZ : Seq64 wB pz n zs) (h1 : 1 ≤ n) (h16 : n ≤ 16) (hi : i < n) (hU : UO wB w y0 l0) (hl0 : l0.length ≤ 2800)
    (u2 u3 u4 u5 u6 u7 u11 u12 u13 u14 u15 u16 u17 u18 u19 u20 u21 u22 u23 u24 u25 u26 u27 u28 u29 u30 u31 u32 u33 u34 u35 u36 u37 u38 u39 u40 u41 u42 u43 u44 u45 u46 u47 u48 u49 u50 u51 u52 u53 u54 u55 u56 u57 u58 u59 u60 u61 u62 u63 u64 u65 u66 u67 u68 u69 u70 u71 u72 u73 u74 u75 u76 u77 u78 u79 u80 u81 u82 u83 u84 u85 u86 u87 u88 u89 u90 u91 u92 u93 u94 u95 u96 u97 u98 u99 u100 u101 u102 u103 u104 u105 u106 u107 u108 u109 u110 u111 u112 u113 u114 u115 u116 u117 u118 u119 u120 u121 u122 u123 u124 u125 u126 u127 u128 u129 u130 : Value)
    (hE : ∀ (v8 v10 v11 v12 v13 v66 v67 v68 v69 v70 v71 v72 v73 v74 v75 v76 v77 v78 v79 v80 v81 v82 v83 v84 v85 v86 v87 v88 v89 v90 v91 v92 v93 v94 v95 v96 v97 v98 v99 v100 v101 v102 v103 v104 v105 v106 v107 v108 v109 v110 v111 v112 v113 v114 v115 v116 v117 v118 v119 v120 v121 v122 v123 v124 v125 v126 v127 v128 v129 : Value) (W9 : World), someMin rows → Below wB.heap.size wB W9 → Q .ret ({ tmps := (Value.slice pn M cn :: Value.slice pz n cz :: u2 :: u3 :: Value.slice none 0 0 :: Value.int .i64 3 :: u6 :: u7 :: v8 :: Value.int .i64 (i : Int) :: v10 :: v11 :: v12 :: v13 :: u14 :: u15 :: u16 :: u17 :: u18 :: u19 :: u20 :: u21 :: u22 :: u23 :: u24 :: u25 :: u26 :: u27 :: u28 :: u29 :: u30 :: u31 :: u32 :: u33 :: u34 :: u35 :: u36 :: u37 :: u38 :: u39 :: u40 :: u41 :: u42 :: u43 :: u44 :: u45 :: u46 :: u47 :: u48 :: u49 :: u50 :: u51 :: u52 :: u53 :: u54 :: u55 :: u56 :: u57 :: u58 :: u59 :: u60 :: u61 :: u62 :: u63 :: u64 :: u65 :: v66 :: v67 :: v68 :: v69 :: v70 :: v71 :: v72 :: v73 :: v74 :: v75 :: v76 :: v77 :: v78 :: v79 :: v80 :: v81 :: v82 :: v83 :: v84 :: v85 :: v86 :: v87 :: v88 :: v89 :: v90 :: v91 :: v92 :: v93 :: v94 :: v95 :: v96 :: v97 :: v98 :: v99 :: v100 :: v101 :: v102 :: v103 :: v104 :: v105 :: v106 :: v107 :: v108 :: v109 :: v110 :: v111 :: v112 :: v113 :: v114 :: v115 :: v116 :: v117 :: v118 :: v119 :: v120 :: v121 :: v122 :: v123 :: v124 :: v125 :: v126 :: v127 :: v128 :: v129 :: u130 :: []).toArray, defers := [] } : Act) W9)
    (hK : ∀ (v4 v5 v8 v10 v11 v12 v13 v66 v67 v68 v69 v70 v71 v72 v73 v74 v75 v76 v77 v78 v79 v80 v81 v82 v83 v84 v85 v86 v87 v88 v89 v90 v91 v92 v93 v94 v95 v96 v97 v98 v99 v100 v101 v102 v103 v104 v105 v106 v107 v108 v109 v110 v111 v112 v113 v114 v115 v116 v117 v118 v119 v120 v121 v122 v123 v124 v125 v126 v127 v128 v129 : Value)  (W9 : World), noMin rows M → UO wB W9 v8 (l0 ++ matO zs i rows M) → Q .normal ({ tmps := (Value.slice pn M cn :: Value.slice pz n cz :: u2 :: u3 :: v4 :: v5 :: u6 :: u7 :: v8 :: Value.int .i64 (i : Int) :: v10 :: v11 :: v12 :: v13 :: u14 :: u15 :: u16 :: u17 :: u18 :: u19 :: u20 :: u21 :: u22 :: u23 :: u24 :: u25 :: u26 :: u27 :: u28 :: u29 :: u30 :: u31 :: u32 :: u33 :: u34 :: u35 :: u36 :: u37 :: u38 :: u39 :: u40 :: u41 :: u42 :: u43 :: u44 :: u45 :: u46 :: u47 :: u48 :: u49 :: u50 :: u51 :: u52 :: u53 :: u54 :: u55 :: u56 :: u57 :: u58 :: u59 :: u60 :: u61 :: u62 :: u63 :: u64 :: u65 :: v66 :: v67 :: v68 :: v69 :: v70 :: v71 :: v72 :: v73 :: v74 :: v75 :: v76 :: v77 :: v78 :: v79 :: v80 :: v81 :: v82 :: v83 :: v84 :: v85 :: v86 :: v87 :: v88 :: v89 :: v90 :: v91 :: v92 :: v93 :: v94 :: v95 :: v96 :: v97 :: v98 :: v99 :: v100 :: v101 :: v102 :: v103 :: v104 :: v105 :: v106 :: v107 :: v108 :: v109 :: v110 :: v111 :: v112 :: v113 :: v114 :: v115 :: v116 :: v117 :: v118 :: v119 :: v120 :: v121 :: v122 :: v123 :: v124 :: v125 :: v126 :: v127 :: v128 :: v129 :: u130 :: []).toArray, defers := [] } : Act) W9) :
    Code.wp Tryz.prog cs6 Q ({ tmps := (Value.slice pn M cn :: Value.slice pz n cz :: u2 :: u3 :: u4 :: u5 :: u6 :: u7 :: y0 :: Value.int .i64 (i : Int) :: Value.int .i64 0 :: u11 :: u12 :: u13 :: u14 :: u15 :: u16 :: u17 :: u18 :: u19 :: u20 :: u21 :: u22 :: u23 :: u24 :: u25 :: u26 :: u27 :: u28 :: u29 :: u30 :: u31 :: u32 :: u33 :: u34 :: u35 :: u36 :: u37 :: u38 :: u39 :: u40 :: u41 :: u42 :: u43 :: u44 :: u45 :: u46 :: u47 :: u48 :: u49 :: u50 :: u51 :: u52 :: u53 :: u54 :: u55 :: u56 :: u57 :: u58 :: u59 :: u60 :: u61 :: u62 :: u63 :: u64 :: u65 :: u66 :: u67 :: u68 :: u69 :: u70 :: u71 :: u72 :: u73 :: u74 :: u75 :: u76 :: u77 :: u78 :: u79 :: u80 :: u81 :: u82 :: u83 :: u84 :: u85 :: u86 :: u87 :: u88 :: u89 :: u90 :: u91 :: u92 :: u93 :: u94 :: u95 :: u96 :: u97 :: u98 :: u99 :: u100 :: u101 :: u102 :: u103 :: u104 :: u105 :: u106 :: u107 :: u108 :: u109 :: u110 :: u111 :: u112 :: u113 :: u114 :: u115 :: u116 :: u117 :: u118 :: u119 :: u120 :: u121 :: u122 :: u123 :: u124 :: u125 :: u126 :: u127 :: u128 :: u129 :: u130 :: []).toArray, defers := [] } : Act) w := by
  replace hK := Lib.hid hK
  have h0 : Hid (UO wB w y0 (l0 ++ matO zs i rows 0)) := Lib.hid (by rw [show matO zs i rows 0 = [] from rfl, List.append_nil]; exact hU)
  replace hE := Lib.hid hE
  replace hM := Lib.hid hM
  replace hN := Lib.hid hN
  replace hZ := Lib.hid hZ
  replace h8 := Lib.hid h8
  clear hU
  conv => arg 2; whnf
  go_wp2_with fail
  go_loopw [8, 10] (fun u j wr => ∃ m : Nat, m ≤ M ∧ j = .int .i64 (m : Int) ∧ Hid (noMin rows m) ∧ Hid (UO wB wr u (l0 ++ matO zs i rows m))) (fun _ j _ => M - (intOf j).toNat)
  case atStart => exact ⟨0, by omega, rfl, Lib.hid (fun m' c h => by omega), h0⟩
  case round =>
    obtain ⟨m, hm, rfl, hA, hS⟩ := hrel
    by_cases hmM : m < M
    · have zm : (m : Int) < (M : Int) := by omega
      have hml : m < rows.length := by have := hM.out; omega
      have e1 : rows.getD m [] = rows[m] := by rw [List.getD_eq_getElem?_getD, List.getElem?_eq_getElem hml]; rfl
      have hsucc : Hid (l0 ++ matO zs i rows (m + 1) = (l0 ++ matO zs i rows m) ++ rowO zs i m rows[m] (rows[m]).length) := Lib.hid (by rw [matO_succ, List.append_assoc, e1])
      have hle : Hid ((l0 ++ matO zs i rows m).length ≤ 3000) := Lib.hid (by rw [List.length_append]; have := matO_le zs i rows (len8 h8.out) m; omega)
      have hr8 : Hid ((rows[m]).length ≤ 8) := Lib.hid (h8.out _ (List.getElem_mem hml))
      go_upto_block 8 with fail
      refine s8_any pn M cn rows pz n cz zs u8 i m (rows[m]).length rows[m] (l0 ++ matO zs i rows m) wB wr hN.out hml rfl rfl hr8.out hZ.out h1 h16 hi hS.out hle.out _ _ _ _ _ _ _ _ _ _ _ _ _ _ _ _ _ _ _ _ _ _ _ _ _ _ _ _ _ _ _ _ _ _ _ _ _ _ _ _ _ _ _ _ _ _ _ _ _ _ _ _ _ _ _ _ _ _ _ _ _ _ _ _ _ _ _ _ _ _ _ _ _ _ _ _ _ _ _ _ _ _ _ _ _ _ _ _ _ _ _ _ _ _ _ _ _ _ _ _ _ _ _ _ _ _ _ _ _ _ _ _ _ _ _ _ _ _ _ _ _ _ _ _ _ ?_ ?_
      · intro v8 v11 v12 v13 v72 v73 v74 v75 v76 v77 v78 v79 v80 v81 v82 v83 v84 v85 v86 v87 v88 v89 v90 v91 v92 v93 v94 v95 v96 v97 v98 v99 v100 v101 v102 v103 v104 v105 v106 v107 v108 v109 v110 v111 v112 v113 v114 v115 v116 v117 v118 v119 v120 v121 v122 v123 v124 v125 v126 v127 v128 v129 W9 hex hb
        obtain ⟨c, hc, hx⟩ := hex
        exact hE.out _ _ _ _ _ _ _ _ _ _ _ _ _ _ _ _ _ _ _ _ _ _ _ _ _ _ _ _ _ _ _ _ _ _ _ _ _ _ _ _ _ _ _ _ _ _ _ _ _ _ _ _ _ _ _ _ _ _ _ _ _ _ _ _ _ _ _ _ _ _ ⟨m, c, hml, by rw [e1]; exact hc, by rw [e1]; exact hx⟩ hb
      intro v4 v5 v8 v11 v12 v13 v72 v73 v74 v75 v76 v77 v78 v79 v80 v81 v82 v83 v84 v85 v86 v87 v88 v89 v90 v91 v92 v93 v94 v95 v96 v97 v98 v99 v100 v101 v102 v103 v104 v105 v106 v107 v108 v109 v110 v111 v112 v113 v114 v115 v116 v117 v118 v119 v120 v121 v122 v123 v124 v125 v126 v127 v128 v129 W9 hno hU9
      have hx : Hid (noMin rows (m + 1)) := Lib.hid fun m' c hm' hc => by
        by_cases e : m' = m
        · subst e; rw [e1] at hc ⊢; exact hno c hc
        · exact hA.out m' c (by omega) hc
      have hU : Hid (UO wB W9 v8 (l0 ++ matO zs i rows (m + 1))) := Lib.hid (by rw [hsucc.out]; exact hU9)
      clear hno hU9
      go_wp2_with fail
      go_roundw
      case rel => exact ⟨m + 1, by omega, by go_num, hx, hU⟩
      case measure => simp [intOf]; omega
    · obtain rfl : m = M := by omega
      have zk : ¬ (m : Int) < (m : Int) := by omega
      go_wp2_with fail
      exact hK.out _ _ _ _ _ _ _ _ _ _ _ _ _ _ _ _ _ _ _ _ _ _ _ _ _ _ _ _ _ _ _ _ _ _ _ _ _ _ _ _ _ _ _ _ _ _ _ _ _ _ _ _ _ _ _ _ _ _ _ _ _ _ _ _ _ _ _ _ _ _ _ _ hA.out hS.out
set_option maxHeartbeats 4000000 in
set_option maxRecDepth 100000 in
theorem s4_any {Q : Exit → Act → World → Prop} (pn : Option Addr) (M cn : Nat) (rows : List (List Int)) (pz : Option Addr) (n cz : Nat) (zs : List Int) (y0 : Value) (wB w : World)
    (hN : NSeq wB (.slice pn M cn) rows) (hM : M = rows.length) (hM16 : M ≤ 16) (h8 : ∀ r ∈ rows, r.length ≤ 8) (hZ : Seq64 wB pz n zs) (h1 : 1 ≤ n) (h16 : n ≤ 16) (hU : UO wB w y0 [])
    (u2 u3 u4 u5 u6 u7 u10 u11 u12 u13 u14 u15 u16 u17 u18 u19 u20 u21 u22 u23 u24 u25 u26 u27 u28 u29 u30 u31 u32 u33 u34 u35 u36 u37 u38 u39 u40 u41 u42 u43 u44 u45 u46 u47 u48 u49 u50 u51 u52 u53 u54 u55 u56 u57 u58 u59 u60 u61 u62 u63 u64 u65 u66 u67 u68 u69 u70 u71 u72 u73 u74 u75 u76 u77 u78 u79 u80 u81 u82 u83 u84 u85 u86 u87 u88 u89 u90 u91 u92 u93 u94 u95 u96 u97 u98 u99 u100 u101 u102 u103 u104 u105 u106 u107 u108 u109 u110 u111 u112 u113 u114 u115 u116 u117 u118 u119 u120 u121 u122 u123 u124 u125 u126 u127 u128 u129 u130 : Value)
    (hE : ∀ (v8 v9 v10 v11 v12 v13 v60 v61 v62 v63 v64 v65 v66 v67 v68 v69 v70 v71 v72 v73 v74 v75 v76 v77 v78 v79 v80 v81 v82 v83 v84 v85 v86 v87 v88 v89 v90 v91 v92 v93 v94 v95 v96 v97 v98 v99 v100 v101 v102 v103 v104 v105 v106 v107 v108 v109 v110 v111 v112 v113 v114 v115 v116 v117 v118 v119 v120 v121 v122 v123 v124 v125 v126 v127 v128 v129 : Value) (W9 : World), someMin rows → Below wB.heap.size wB W9 → Q .ret ({ tmps := (Value.slice pn M cn :: Value.slice pz n cz :: u2 :: u3 :: Value.slice none 0 0 :: Value.int .i64 3 :: u6 :: u7 :: v8 :: v9 :: v10 :: v11 :: v12 :: v13 :: u14 :: u15 :: u16 :: u17 :: u18 :: u19 :: u20 :: u21 :: u22 :: u23 :: u24 :: u25 :: u26 :: u27 :: u28 :: u29 :: u30 :: u31 :: u32 :: u33 :: u34 :: u35 :: u36 :: u37 :: u38 :: u39 :: u40 :: u41 :: u42 :: u43 :: u44 :: u45 :: u46 :: u47 :: u48 :: u49 :: u50 :: u51 :: u52 :: u53 :: u54 :: u55 :: u56 :: u57 :: u58 :: u59 :: v60 :: v61 :: v62 :: v63 :: v64 :: v65 :: v66 :: v67 :: v68 :: v69 :: v70 :: v71 :: v72 :: v73 :: v74 :: v75 :: v76 :: v77 :: v78 :: v79 :: v80 :: v81 :: v82 :: v83 :: v84 :: v85 :: v86 :: v87 :: v88 :: v89 :: v90 :: v91 :: v92 :: v93 :: v94 :: v95 :: v96 :: v97 :: v98 :: v99 :: v100 :: v101 :: v102 :: v103 :: v104 :: v105 :: v106 :: v107 :: v108 :: v109 :: v110 :: v111 :: v112 :: v113 :: v114 :: v115 :: v116 :: v117 :: v118 :: v119 :: v120 :: v121 :: v122 :: v123 :: v124 :: v125 :: v126 :: v127 :: v128 :: v129 :: u130 :: []).toArray, defers := [] } : Act) W9)
    (hK : ∀ (v4 v5 v8 v9 v10 v11 v12 v13 v60 v61 v62 v63 v64 v65 v66 v67 v68 v69 v70 v71 v72 v73 v74 v75 v76 v77 v78 v79 v80 v81 v82 v83 v84 v85 v86 v87 v88 v89 v90 v91 v92 v93 v94 v95 v96 v97 v98 v99 v100 v101 v102 v103 v104 v105 v106 v107 v108 v109 v110 v111 v112 v113 v114 v115 v116 v117 v118 v119 v120 v121 v122 v123 v124 v125 v126 v127 v128 v129 : Value)  (W9 : World), noMin rows M → UO wB W9 v8 (schO zs rows n) → Q .normal ({ tmps := (Value.slice pn M cn :: Value.slice pz n cz :: u2 :: u3 :: v4 :: v5 :: u6 :: u7 :: v8 :: v9 :: v10 :: v11 :: v12 :: v13 :: u14 :: u15 :: u16 :: u17 :: u18 :: u19 :: u20 :: u21 :: u22 :: u23 :: u24 :: u25 :: u26 :: u27 :: u28 :: u29 :: u30 :: u31 :: u32 :: u33 :: u34 :: u35 :: u36 :: u37 :: u38 :: u39 :: u40 :: u41 :: u42 :: u43 :: u44 :: u45 :: u46 :: u47 :: u48 :: u49 :: u50 :: u51 :: u52 :: u53 :: u54 :: u55 :: u56 :: u57 :: u58 :: u59 :: v60 :: v61 :: v62 :: v63 :: v64 :: v65 :: v66 :: v67 :: v68 :: v69 :: v70 :: v71 :: v72 :: v73 :: v74 :: v75 :: v76 :: v77 :: v78 :: v79 :: v80 :: v81 :: v82 :: v83 :: v84 :: v85 :: v86 :: v87 :: v88 :: v89 :: v90 :: v91 :: v92 :: v93 :: v94 :: v95 :: v96 :: v97 :: v98 :: v99 :: v100 :: v101 :: v102 :: v103 :: v104 :: v105 :: v106 :: v107 :: v108 :: v109 :: v110 :: v111 :: v112 :: v113 :: v114 :: v115 :: v116 :: v117 :: v118 :: v119 :: v120 :: v121 :: v122 :: v123 :: v124 :: v125 :: v126 :: v127 :: v128 :: v129 :: u130 :: []).toArray, defers := [] } : Act) W9) :
    Code.wp Tryz.prog cs4 Q ({ tmps := (Value.slice pn M cn :: Value.slice pz n cz :: u2 :: u3 :: u4 :: u5 :: u6 :: u7 :: y0 :: Value.int .i64 0 :: u10 :: u11 :: u12 :: u13 :: u14 :: u15 :: u16 :: u17 :: u18 :: u19 :: u20 :: u21 :: u22 :: u23 :: u24 :: u25 :: u26 :: u27 :: u28 :: u29 :: u30 :: u31 :: u32 :: u33 :: u34 :: u35 :: u36 :: u37 :: u38 :: u39 :: u40 :: u41 :: u42 :: u43 :: u44 :: u45 :: u46 :: u47 :: u48 :: u49 :: u50 :: u51 :: u52 :: u53 :: u54 :: u55 :: u56 :: u57 :: u58 :: u59 :: u60 :: u61 :: u62 :: u63 :: u64 :: u65 :: u66 :: u67 :: u68 :: u69 :: u70 :: u71 :: u72 :: u73 :: u74 :: u75 :: u76 :: u77 :: u78 :: u79 :: u80 :: u81 :: u82 :: u83 :: u84 :: u85 :: u86 :: u87 :: u88 :: u89 :: u90 :: u91 :: u92 :: u93 :: u94 :: u95 :: u96 :: u97 :: u98 :: u99 :: u100 :: u101 :: u102 :: u103 :: u104 :: u105 :: u106 :: u107 :: u108 :: u109 :: u110 :: u111 :: u112 :: u113 :: u114 :: u115 :: u116 :: u117 :: u118 :: u119 :: u120 :: u121 :: u122 :: u123 :: u124 :: u125 :: u126 :: u127 :: u128 :: u129 :: u130 :: []).toArray, defers := [] } : Act) w := by
  replace hK := Lib.hid hK
  have h0 : Hid (UO wB w y0 (schO zs rows 0)) := Lib.hid hU
  replace hE := Lib.hid hE
  replace hM := Lib.hid hM
  replace hN := Lib.hid hN
  replace hZ := Lib.hid hZ
  replace h8 := Lib.hid h8
  clear hU
  conv => arg 2; whnf
  go_wp2_with fail
  go_loopw [8, 9] (fun u j wr => ∃ i : Nat, i ≤ n ∧ j = .int .i64 (i : Int) ∧ Hid (0 < i → noMin rows M) ∧ Hid (UO wB wr u (schO zs rows i))) (fun _ j _ => n - (intOf j).toNat)
  case atStart => exact ⟨0, by omega, rfl, Lib.hid (fun h => by omega), h0⟩
  case round =>
    obtain ⟨i, hi, rfl, hA, hS⟩ := hrel
    by_cases hin : i < n
    · have zi : (i : Int) < (n : Int) := by omega
      have hsucc : Hid (schO zs rows (i + 1) = schO zs rows i ++ matO zs i rows M) := Lib.hid (by rw [schO_succ, hM.out])
      have hle : Hid ((schO zs rows i).length ≤ 2800) := Lib.hid (by have := schO_le zs rows (len8 h8.out) (by have := hM.out; omega) i; omega)
      go_upto_block 6 with fail
      refine s6_any pn M cn rows pz n cz zs u8 i (schO zs rows i) wB wr hN.out hM.out hM16 h8.out hZ.out h1 h16 hin hS.out hle.out _ _ _ _ _ _ _ _ _ _ _ _ _ _ _ _ _ _ _ _ _ _ _ _ _ _ _ _ _ _ _ _ _ _ _ _ _ _ _ _ _ _ _ _ _ _ _ _ _ _ _ _ _ _ _ _ _ _ _ _ _ _ _ _ _ _ _ _ _ _ _ _ _ _ _ _ _ _ _ _ _ _ _ _ _ _ _ _ _ _ _ _ _ _ _ _ _ _ _ _ _ _ _ _ _ _ _ _ _ _ _ _ _ _ _ _ _ _ _ _ _ _ _ _ _ _ ?_ ?_
      · intro v8 v10 v11 v12 v13 v66 v67 v68 v69 v70 v71 v72 v73 v74 v75 v76 v77 v78 v79 v80 v81 v82 v83 v84 v85 v86 v87 v88 v89 v90 v91 v92 v93 v94 v95 v96 v97 v98 v99 v100 v101 v102 v103 v104 v105 v106 v107 v108 v109 v110 v111 v112 v113 v114 v115 v116 v117 v118 v119 v120 v121 v122 v123 v124 v125 v126 v127 v128 v129 W9 hex hb
        exact hE.out _ _ _ _ _ _ _ _ _ _ _ _ _ _ _ _ _ _ _ _ _ _ _ _ _ _ _ _ _ _ _ _ _ _ _ _ _ _ _ _ _ _ _ _ _ _ _ _ _ _ _ _ _ _ _ _ _ _ _ _ _ _ _ _ _ _ _ _ _ _ _ _ _ _ _ _ _ hex hb
      intro v4 v5 v8 v10 v11 v12 v13 v66 v67 v68 v69 v70 v71 v72 v73 v74 v75 v76 v77 v78 v79 v80 v81 v82 v83 v84 v85 v86 v87 v88 v89 v90 v91 v92 v93 v94 v95 v96 v97 v98 v99 v100 v101 v102 v103 v104 v105 v106 v107 v108 v109 v110 v111 v112 v113 v114 v115 v116 v117 v118 v119 v120 v121 v122 v123 v124 v125 v126 v127 v128 v129 W9 hno hU9
      have hx : Hid (0 < i + 1 → noMin rows M) := Lib.hid fun _ => hno
      have hU : Hid (UO wB W9 v8 (schO zs rows (i + 1))) := Lib.hid (by rw [hsucc.out]; exact hU9)
      clear hno hU9
      go_wp2_with fail
      go_roundw
      case rel => exact ⟨i + 1, by omega, by go_num, hx, hU⟩
      case measure => simp [intOf]; omega
    · obtain rfl : i = n := by omega
      have zk : ¬ (i : Int) < (i : Int) := by omega
      go_wp2_with fail
      exact hK.out _ _ _ _ _ _ _ _ _ _ _ _ _ _ _ _ _ _ _ _ _ _ _ _ _ _ _ _ _ _ _ _ _ _ _ _ _ _ _ _ _ _ _ _ _ _ _ _ _ _ _ _ _ _ _ _ _ _ _ _ _ _ _ _ _ _ _ _ _ _ _ _ _ _ _ _ _ _ _ (hA.out (by omega)) hS.out
/-- what the reference's Schedule hands back -/
def RSch (rows : List (List Int)) (zs : List Int) (w' : World) (e : Ending) : Prop :=
  (mayD zs = false ∧ e = .returned (.tuple #[.slice none 0 0, .int .i64 1])) ∨
  (mayD zs = true ∧ manyN rows = true ∧ e = .returned (.tuple #[.slice none 0 0, .int .i64 4])) ∨
  (mayD zs = true ∧ manyN rows = false ∧ overN rows = true ∧ e = .returned (.tuple #[.slice none 0 0, .int .i64 3])) ∨
  (mayD zs = true ∧ manyN rows = false ∧ overN rows = false ∧ ∃ u, e = .returned (.tuple #[u, .int .i64 0]) ∧ USeq w' u (schO zs rows zs.length))
theorem rises_of : ∀ (zs : List Int) (a : Int), (0 < zs.length → a < zs.getD 0 0) → (∀ k j, k = j + 1 → k < zs.length → zs.getD j 0 < zs.getD k 0) → rises a zs = true
  | [], a, _, _ => rfl
  | z :: r, a, h0, hs => by
    unfold rises
    rw [rises_of r z (fun hr => hs 1 0 rfl (by simpa using hr)) (fun k j hk hl => by
      have := hs (k + 1) (j + 1) (by omega) (by simpa using hl)
      simpa using this)]
    have := h0 (by simp)
    rw [Bool.and_true, decide_eq_true_eq]
    exact this
theorem mayD_of {zs : List Int} (h1 : 1 ≤ zs.length) (h16 : zs.length ≤ 16) (h0 : 0 ≤ zs.getD 0 0) (hs : ∀ k j, k = j + 1 → k < zs.length → zs.getD j 0 < zs.getD k 0) : mayD zs = true := by
  unfold mayD
  rw [rises_of zs (-1) (fun _ => by omega) hs, decide_eq_true h1, decide_eq_true h16]; rfl
theorem mayD_not {zs : List Int} (h : ¬ (1 ≤ zs.length ∧ zs.length ≤ 16 ∧ 0 ≤ zs.getD 0 0 ∧ ∀ k j, k = j + 1 → k < zs.length → zs.getD j 0 < zs.getD k 0)) : mayD zs = false := by
  rw [← Bool.not_eq_true]
  intro hD
  obtain ⟨a1, a2, a3, a4⟩ := mayD_rise hD
  refine h ⟨a1, a2, a4 _ ?_, fun k j hk hl => a3 j k (by omega) hl⟩
  rw [List.getD_eq_getElem?_getD, List.getElem?_eq_getElem (by omega)]; exact List.getElem_mem _
theorem entry_mem' {rows : List (List Int)} {m c : Nat} (hm : m < rows.length) (hc : c < (rows.getD m []).length) : ∃ r ∈ rows, (rows.getD m []) = r ∧ (rows.getD m []).getD c 0 ∈ r := by
  have e1 : rows.getD m [] = rows[m] := by rw [List.getD_eq_getElem?_getD, List.getElem?_eq_getElem hm]; rfl
  refine ⟨rows[m], List.getElem_mem hm, e1, ?_⟩
  rw [e1] at hc ⊢
  rw [List.getD_eq_getElem?_getD, List.getElem?_eq_getElem hc]
  exact List.getElem_mem _
theorem over_some {rows : List (List Int)} (h : someMin rows) : overN rows = true := by
  obtain ⟨m, c, hm, hc, hx⟩ := h
  obtain ⟨r, hr, _, hme⟩ := entry_mem' hm hc
  unfold overN
  exact List.any_eq_true.2 ⟨r, hr, List.any_eq_true.2 ⟨_, hme, decide_eq_true hx⟩⟩
theorem over_none {rows : List (List Int)} (h : noMin rows rows.length) : overN rows = false := by
  unfold overN
  rw [List.any_eq_false]
  intro r hr
  rw [Bool.not_eq_true, List.any_eq_false]
  intro x hx
  obtain ⟨m, hm, rfl⟩ := List.mem_iff_getElem.1 hr
  obtain ⟨c, hc, rfl⟩ := List.mem_iff_getElem.1 hx
  have e1 : rows.getD m [] = rows[m] := by rw [List.getD_eq_getElem?_getD, List.getElem?_eq_getElem hm]; rfl
  have := h m c hm (by rw [e1]; exact hc)
  rw [e1, List.getD_eq_getElem?_getD, List.getElem?_eq_getElem hc] at this
  simpa using this
set_option maxHeartbeats 4000000 in
set_option maxRecDepth 100000 in
theorem rsch_any (pn : Option Addr) (M cn : Nat) (rows : List (List Int)) (pz : Option Addr) (n cz : Nat) (zs : List Int) (w : World) (hN : NSeq w (.slice pn M cn) rows) (hM : rows.length = M) (hM0 : M ≤ 4611686018427387904) (hZ : Seq64 w pz n zs) :
    Calls Tryz.prog 14 #[.slice pn M cn, .slice pz n cz] w fun e w' => Below w.heap.size w w' ∧ RSch rows zs w' e := by
  have hzl := hZ.1
  by_cases a1 : n < 1
  · have hx : Hid (mayD zs = false) := Lib.hid (mayD_not fun h => by omega)
    have z1 : (n : Int) < 1 := by omega
    go_enter Tryz.func14, Tryz.ntmps14
    go_wp2_with fail
    go_ret2
    exact ⟨Below.refl _ _, .inl ⟨hx.out, rfl⟩⟩
  by_cases a2 : 16 < n
  · have hx : Hid (mayD zs = false) := Lib.hid (mayD_not fun h => by omega)
    have z1 : ¬ (n : Int) < 1 := by omega
    have z2 : (16 : Int) < (n : Int) := by omega
    go_enter Tryz.func14, Tryz.ntmps14
    go_wp2_with fail
    go_ret2
    exact ⟨Below.refl _ _, .inl ⟨hx.out, rfl⟩⟩
  have z1 : ¬ (n : Int) < 1 := by omega
  have z2 : ¬ (16 : Int) < (n : Int) := by omega
  have hZh := Lib.hid hZ
  obtain ⟨-, -, -, hcs⟩ := hZ
  obtain ⟨bz, oz, rfl, hltz, hallz⟩ := hcs.resolve_left (by omega)
  have c0 := hallz 0 (by omega)
  rw [Nat.add_zero] at c0
  have zn : (0 : Int) < (n : Int) := by omega
  replace hN := Lib.hid hN
  replace hM := Lib.hid hM
  clear hallz hcs
  by_cases a3 : zs.getD 0 0 < 0
  · have hx : Hid (mayD zs = false) := Lib.hid (mayD_not fun h => by omega)
    generalize zs.getD 0 0 = t0 at *
    replace hzl := Lib.hid hzl
    go_enter Tryz.func14, Tryz.ntmps14
    go_wp2_with fail
    go_ret2
    exact ⟨Below.refl _ _, .inl ⟨hx.out, rfl⟩⟩
  have hnot : Hid ((∃ k j, k = j + 1 ∧ k < n ∧ ¬ zs.getD j 0 < zs.getD k 0) → mayD zs = false) := Lib.hid fun ⟨k, j, h1, h2, h3⟩ => mayD_not fun h => h3 (h.2.2.2 k j h1 (by omega))
  have hyes : Hid ((∀ k j, k = j + 1 → k < n → zs.getD j 0 < zs.getD k 0) → mayD zs = true) := Lib.hid fun h => mayD_of (by omega) (by omega) (by omega) (fun k j h1 h2 => h k j h1 (by omega))
  obtain ⟨t0, ht0⟩ : ∃ t, t = zs.getD 0 0 := ⟨_, rfl⟩
  rw [← ht0] at c0 a3
  replace ht0 := Lib.hid ht0
  replace hzl := Lib.hid hzl
  go_enter Tryz.func14, Tryz.ntmps14
  go_upto_block 0 with fail
  refine s0_any (some ⟨bz, oz, none⟩) n cz zs w hZh.out (by omega) _ _ _ _ _ _ _ _ _ _ _ _ _ _ _ _ _ _ _ _ _ _ _ _ _ _ _ _ _ _ _ _ _ _ _ _ _ _ _ _ _ _ _ _ _ _ _ _ _ _ _ _ _ _ _ _ _ _ _ _ _ _ _ _ _ _ _ _ _ _ _ _ _ _ _ _ _ _ _ _ _ _ _ _ _ _ _ _ _ _ _ _ _ _ _ _ _ _ _ _ _ _ _ _ _ _ _ _ _ _ _ _ _ _ _ _ _ _ _ _ _ _ _ _ _ _ _ _ _ ?_ ?_
  · intro v6 v28 v29 v30 v31 v32 v33 v34 v35 v36 v37 v38 v39 v40 v41 v42 v43 W9 hex hb
    go_ret2
    exact ⟨hb, .inl ⟨hnot.out hex, rfl⟩⟩
  intro v4 v5 v6 v28 v29 v30 v31 v32 v33 v34 v35 v36 v37 v38 v39 v40 v41 v42 v43 W9 hris hb9
  have hD : Hid (mayD zs = true) := Lib.hid (hyes.out hris)
  clear hris
  replace hb9 := Lib.hid hb9
  by_cases hMb : 16 < M
  · have z3 : (16 : Int) < (M : Int) := by omega
    have hx : Hid (manyN rows = true) := Lib.hid (by unfold manyN; rw [decide_eq_true (by have := hM.out; omega)]; rfl)
    go_wp2_with fail
    go_ret2
    exact ⟨hb9.out, .inr (.inl ⟨hD.out, hx.out, rfl⟩)⟩
  have z3 : ¬ (16 : Int) < (M : Int) := by omega
  have hNo : NSeq W9 (.slice pn M cn) rows := hN.out.kept hb9.out
  go_upto_block 2 with fail
  refine s2_any pn M cn rows W9 hNo hM.out.symm (by omega) _ _ _ _ _ _ _ _ _ _ _ _ _ _ _ _ _ _ _ _ _ _ _ _ _ _ _ _ _ _ _ _ _ _ _ _ _ _ _ _ _ _ _ _ _ _ _ _ _ _ _ _ _ _ _ _ _ _ _ _ _ _ _ _ _ _ _ _ _ _ _ _ _ _ _ _ _ _ _ _ _ _ _ _ _ _ _ _ _ _ _ _ _ _ _ _ _ _ _ _ _ _ _ _ _ _ _ _ _ _ _ _ _ _ _ _ _ _ _ _ _ _ _ _ _ _ _ _ _ ?_ ?_
  · rintro v7 v47 v48 v49 v50 v51 v52 v53 v54 v55 v56 v57 v58 W5 ⟨r, hr, h8⟩ rfl
    have hx : Hid (manyN rows = true) := Lib.hid (by
      unfold manyN
      rw [List.any_eq_true.2 ⟨r, hr, decide_eq_true h8⟩, Bool.or_true])
    go_ret2
    exact ⟨hb9.out, .inr (.inl ⟨hD.out, hx.out, rfl⟩)⟩
  rintro v4 v5 v7 v47 v48 v49 v50 v51 v52 v53 v54 v55 v56 v57 v58 W5 h8 rfl
  have hMa : Hid (manyN rows = false) := Lib.hid (by
    unfold manyN
    rw [decide_eq_false (by have := hM.out; omega), Bool.false_or, List.any_eq_false]
    intro r hr
    rw [Bool.not_eq_true]; exact decide_eq_false (h8 r hr))
  have h8' : ∀ r ∈ rows, r.length ≤ 8 := fun r hr => by have := h8 r hr; omega
  go_upto_block 4 with fail
  refine s4_any pn M cn rows (some ⟨bz, oz, none⟩) n cz zs _ W9 _ hNo hM.out.symm (by omega) h8' (hZh.out.kept hb9.out) (by omega) (by omega) (UO.made W9) _ _ _ _ _ _ _ _ _ _ _ _ _ _ _ _ _ _ _ _ _ _ _ _ _ _ _ _ _ _ _ _ _ _ _ _ _ _ _ _ _ _ _ _ _ _ _ _ _ _ _ _ _ _ _ _ _ _ _ _ _ _ _ _ _ _ _ _ _ _ _ _ _ _ _ _ _ _ _ _ _ _ _ _ _ _ _ _ _ _ _ _ _ _ _ _ _ _ _ _ _ _ _ _ _ _ _ _ _ _ _ _ _ _ _ _ _ _ _ _ _ _ _ _ _ _ _ ?_ ?_
  · intro v8 v9 v10 v11 v12 v13 v60 v61 v62 v63 v64 v65 v66 v67 v68 v69 v70 v71 v72 v73 v74 v75 v76 v77 v78 v79 v80 v81 v82 v83 v84 v85 v86 v87 v88 v89 v90 v91 v92 v93 v94 v95 v96 v97 v98 v99 v100 v101 v102 v103 v104 v105 v106 v107 v108 v109 v110 v111 v112 v113 v114 v115 v116 v117 v118 v119 v120 v121 v122 v123 v124 v125 v126 v127 v128 v129 W5 hex hb
    go_ret2
    exact ⟨hb9.out.trans (hb.mono hb9.out.size), .inr (.inr (.inl ⟨hD.out, hMa.out, over_some hex, rfl⟩))⟩
  intro v4 v5 v8 v9 v10 v11 v12 v13 v60 v61 v62 v63 v64 v65 v66 v67 v68 v69 v70 v71 v72 v73 v74 v75 v76 v77 v78 v79 v80 v81 v82 v83 v84 v85 v86 v87 v88 v89 v90 v91 v92 v93 v94 v95 v96 v97 v98 v99 v100 v101 v102 v103 v104 v105 v106 v107 v108 v109 v110 v111 v112 v113 v114 v115 v116 v117 v118 v119 v120 v121 v122 v123 v124 v125 v126 v127 v128 v129 W5 hno hU
  rw [← hM.out] at hno
  rw [← hzl.out] at hU
  have hOv := Lib.hid (over_none hno)
  replace hU := Lib.hid hU
  clear hno
  go_wp2_with fail
  go_ret2
  exact ⟨hb9.out.trans (hU.out.bl.mono hb9.out.size), .inr (.inr (.inr ⟨hD.out, hMa.out, hOv.out, _, rfl, hU.out.seq⟩))⟩
end Go.Proofs.YthocnlalahknjaaGreat.Dd
