/- Parts of the reference's Net; one more of a Big. -/
import Derived.Test.YthocnlalahknjaaGreatQWab
import Derived.Test.YthocnlalahknjaaGreatQVab
import Derived.Test.YthocnlalahknjaaGreatQXc
import Derived.Deep.RegionWith
import Derived.Deep.CutBlock
namespace Go.Proofs.YthocnlalahknjaaGreat.Dd
open Go.RowKit
set_option linter.unusedVariables false
noncomputable def cr23 : Code := cpath [1, 1, 1, 1, 0, 1, 2, 3, 1, 0, 2, 1, 0, 1, 2, 3, 1, 0, 2, 1, 0, 1, 2, 3, 1, 0, 2, 1, 1, 0, 0] (cbody Tryz.f10.body)
noncomputable def cr25 : Code := cpath [1, 1, 1, 1, 0, 1, 2, 3, 1, 0, 2, 1, 0, 1, 2, 3, 1, 0, 2, 1, 0, 1, 2, 3, 1, 0, 2, 1, 1, 1, 0, 0] (cbody Tryz.f10.body)
noncomputable def cr27 : Code := cpath [1, 1, 1, 1, 0, 1, 2, 3, 1, 0, 2, 1, 0, 1, 2, 3, 1, 0, 2, 1, 0, 1, 2, 3, 1, 0, 2, 1, 1, 1, 1, 0, 0] (cbody Tryz.f10.body)
noncomputable def cr29 : Code := cpath [1, 1, 1, 1, 0, 1, 2, 3, 1, 0, 2, 1, 0, 1, 2, 3, 1, 0, 2, 1, 0, 1, 2, 3, 1, 0, 2, 1, 1, 1, 1, 1, 0] (cbody Tryz.f10.body)
noncomputable def cc24 : Code := cpath [1, 1, 1, 1, 0, 1, 2, 3, 1, 0, 2, 1, 0, 1, 2, 3, 1, 0, 2, 1, 0, 1, 2, 3, 1, 0, 2, 1, 1, 0, 1] (cbody Tryz.f10.body)
noncomputable def cc26 : Code := cpath [1, 1, 1, 1, 0, 1, 2, 3, 1, 0, 2, 1, 0, 1, 2, 3, 1, 0, 2, 1, 0, 1, 2, 3, 1, 0, 2, 1, 1, 1, 0, 1] (cbody Tryz.f10.body)
noncomputable def cc28 : Code := cpath [1, 1, 1, 1, 0, 1, 2, 3, 1, 0, 2, 1, 0, 1, 2, 3, 1, 0, 2, 1, 0, 1, 2, 3, 1, 0, 2, 1, 1, 1, 1, 0, 1] (cbody Tryz.f10.body)
noncomputable def cc30 : Code := cpath [1, 1, 1, 1, 0, 1, 2, 3, 1, 0, 2, 1, 0, 1, 2, 3, 1, 0, 2, 1, 0, 1, 2, 3, 1, 0, 2, 1, 1, 1, 1, 1, 1] (cbody Tryz.f10.body)
noncomputable def cb0 : Code := cpath [1, 1, 0, 1] (cbody Tryz.f10.body)
noncomputable def cb2 : Code := cpath [1, 1, 1, 1, 0, 1] (cbody Tryz.f10.body)
noncomputable def cb4 : Code := cpath [1, 1, 1, 1, 0, 1, 2, 3, 1, 0, 2, 1, 0, 1] (cbody Tryz.f10.body)
noncomputable def cb6 : Code := cpath [1, 1, 1, 1, 0, 1, 2, 3, 1, 0, 2, 1, 0, 1, 2, 3, 1, 0, 2, 1, 0, 1] (cbody Tryz.f10.body)
/-- a Big in block b is another one; all else that stood stays -/
structure Put (w W : World) (b L : Nat) (N : Int) : Prop where
  at_ : ∃ n p l c, BigAt W b L N n p l c
  kp : Kp (fun j => j = b) w W
set_option maxHeartbeats 4000000 in
set_option maxRecDepth 100000 in
theorem r23_any {Q : Exit → Act → World → Prop} (gd m c : Nat) (x y : Int) (w : World)
    (h1 : w.cell? ⟨gd, 3, none⟩ = some (.int .i64 x)) (h2 : w.cell? ⟨gd, 1, none⟩ = some (.int .i64 y))
    (u0 u1 u2 u3 u4 u5 u6 u7 u8 u9 u10 u12 u14 u15 u17 u18 u19 u20 u21 u22 u23 u24 u25 u26 u27 u28 u29 u30 u31 u32 u33 u34 u35 u36 u37 u38 u39 u40 u41 u42 u43 u44 u45 u46 u47 u48 u49 u50 u51 u52 u53 u54 u55 u56 u57 u58 u59 u60 u61 u62 u63 u64 u65 u66 u67 u68 u69 u70 u71 u72 u73 u74 u75 u76 u77 u78 u79 u80 u81 u82 u83 u84 u85 u86 u87 u88 u89 u90 u91 u92 u93 u94 u95 u96 u97 u98 u99 u100 u101 u102 u103 u104 u105 u106 u107 u108 u109 u110 u111 u112 u113 u114 u115 u116 u117 u118 u119 u120 u121 u122 u123 u124 u125 u126 u127 u128 u129 u130 u131 u132 u133 u134 u135 u136 u137 u138 u139 u140 u141 u142 u143 u144 u145 u146 u147 u148 u149 u150 u151 u152 u153 u154 u155 u156 u157 u158 u159 u160 u161 u162 u163 u164 u165 u166 u167 u168 u169 u170 u171 u172 u173 u174 u175 u176 u177 u178 u179 u180 u181 u182 u183 u184 u185 u186 u187 u188 u189 u190 u191 u192 u193 u194 u195 u196 u197 u198 u199 u200 : Value)
    (hK : ∀ (v122 v123 v124 v125 v126 v127 v128 v129 v130 : Value)  (W9 : World), w = W9 → Q .normal ({ tmps := (u0 :: u1 :: u2 :: u3 :: u4 :: u5 :: u6 :: u7 :: u8 :: u9 :: u10 :: Value.int .i64 (m : Int) :: u12 :: Value.int .i64 (c : Int) :: u14 :: u15 :: Value.pointer (some ⟨gd, 0, none⟩) :: u17 :: u18 :: u19 :: u20 :: u21 :: u22 :: u23 :: u24 :: u25 :: u26 :: u27 :: u28 :: u29 :: u30 :: u31 :: u32 :: u33 :: u34 :: u35 :: u36 :: u37 :: u38 :: u39 :: u40 :: u41 :: u42 :: u43 :: u44 :: u45 :: u46 :: u47 :: u48 :: u49 :: u50 :: u51 :: u52 :: u53 :: u54 :: u55 :: u56 :: u57 :: u58 :: u59 :: u60 :: u61 :: u62 :: u63 :: u64 :: u65 :: u66 :: u67 :: u68 :: u69 :: u70 :: u71 :: u72 :: u73 :: u74 :: u75 :: u76 :: u77 :: u78 :: u79 :: u80 :: u81 :: u82 :: u83 :: u84 :: u85 :: u86 :: u87 :: u88 :: u89 :: u90 :: u91 :: u92 :: u93 :: u94 :: u95 :: u96 :: u97 :: u98 :: u99 :: u100 :: u101 :: u102 :: u103 :: u104 :: u105 :: u106 :: u107 :: u108 :: u109 :: u110 :: u111 :: u112 :: u113 :: u114 :: u115 :: u116 :: u117 :: u118 :: u119 :: u120 :: u121 :: v122 :: v123 :: v124 :: v125 :: v126 :: v127 :: v128 :: v129 :: v130 :: Value.bool (decide (x = c ∧ y = m)) :: u132 :: u133 :: u134 :: u135 :: u136 :: u137 :: u138 :: u139 :: u140 :: u141 :: u142 :: u143 :: u144 :: u145 :: u146 :: u147 :: u148 :: u149 :: u150 :: u151 :: u152 :: u153 :: u154 :: u155 :: u156 :: u157 :: u158 :: u159 :: u160 :: u161 :: u162 :: u163 :: u164 :: u165 :: u166 :: u167 :: u168 :: u169 :: u170 :: u171 :: u172 :: u173 :: u174 :: u175 :: u176 :: u177 :: u178 :: u179 :: u180 :: u181 :: u182 :: u183 :: u184 :: u185 :: u186 :: u187 :: u188 :: u189 :: u190 :: u191 :: u192 :: u193 :: u194 :: u195 :: u196 :: u197 :: u198 :: u199 :: u200 :: []).toArray, defers := [] } : Act) W9) :
    Code.wp Tryz.prog cr23 Q ({ tmps := (u0 :: u1 :: u2 :: u3 :: u4 :: u5 :: u6 :: u7 :: u8 :: u9 :: u10 :: Value.int .i64 (m : Int) :: u12 :: Value.int .i64 (c : Int) :: u14 :: u15 :: Value.pointer (some ⟨gd, 0, none⟩) :: u17 :: u18 :: u19 :: u20 :: u21 :: u22 :: u23 :: u24 :: u25 :: u26 :: u27 :: u28 :: u29 :: u30 :: u31 :: u32 :: u33 :: u34 :: u35 :: u36 :: u37 :: u38 :: u39 :: u40 :: u41 :: u42 :: u43 :: u44 :: u45 :: u46 :: u47 :: u48 :: u49 :: u50 :: u51 :: u52 :: u53 :: u54 :: u55 :: u56 :: u57 :: u58 :: u59 :: u60 :: u61 :: u62 :: u63 :: u64 :: u65 :: u66 :: u67 :: u68 :: u69 :: u70 :: u71 :: u72 :: u73 :: u74 :: u75 :: u76 :: u77 :: u78 :: u79 :: u80 :: u81 :: u82 :: u83 :: u84 :: u85 :: u86 :: u87 :: u88 :: u89 :: u90 :: u91 :: u92 :: u93 :: u94 :: u95 :: u96 :: u97 :: u98 :: u99 :: u100 :: u101 :: u102 :: u103 :: u104 :: u105 :: u106 :: u107 :: u108 :: u109 :: u110 :: u111 :: u112 :: u113 :: u114 :: u115 :: u116 :: u117 :: u118 :: u119 :: u120 :: u121 :: u122 :: u123 :: u124 :: u125 :: u126 :: u127 :: u128 :: u129 :: u130 :: u131 :: u132 :: u133 :: u134 :: u135 :: u136 :: u137 :: u138 :: u139 :: u140 :: u141 :: u142 :: u143 :: u144 :: u145 :: u146 :: u147 :: u148 :: u149 :: u150 :: u151 :: u152 :: u153 :: u154 :: u155 :: u156 :: u157 :: u158 :: u159 :: u160 :: u161 :: u162 :: u163 :: u164 :: u165 :: u166 :: u167 :: u168 :: u169 :: u170 :: u171 :: u172 :: u173 :: u174 :: u175 :: u176 :: u177 :: u178 :: u179 :: u180 :: u181 :: u182 :: u183 :: u184 :: u185 :: u186 :: u187 :: u188 :: u189 :: u190 :: u191 :: u192 :: u193 :: u194 :: u195 :: u196 :: u197 :: u198 :: u199 :: u200 :: []).toArray, defers := [] } : Act) w := by
  replace hK := Lib.hid hK
  by_cases e1 : x = c
  · subst e1
    by_cases e2 : y = m
    · subst e2
      rw [decide_eq_true ⟨rfl, rfl⟩] at hK
      conv => arg 2; whnf
      go_wp2_with fail
      exact hK.out _ _ _ _ _ _ _ _ _ _ rfl
    · rw [decide_eq_false (fun e => e2 e.2)] at hK
      have zb : (y == (m : Int)) = false := by simp [e2]
      conv => arg 2; whnf
      go_wp2_with fail
      exact hK.out _ _ _ _ _ _ _ _ _ _ rfl
  · rw [decide_eq_false (fun e => e1 e.1)] at hK
    conv => arg 2; whnf
    go_wp2_with fail
    exact hK.out _ _ _ _ _ _ _ _ _ _ rfl
set_option maxHeartbeats 4000000 in
set_option maxRecDepth 100000 in
theorem r25_any {Q : Exit → Act → World → Prop} (gd m c : Nat) (x y : Int) (w : World)
    (h1 : w.cell? ⟨gd, 3, none⟩ = some (.int .i64 x)) (h2 : w.cell? ⟨gd, 2, none⟩ = some (.int .i64 y))
    (u0 u1 u2 u3 u4 u5 u6 u7 u8 u9 u10 u12 u14 u15 u17 u18 u19 u20 u21 u22 u23 u24 u25 u26 u27 u28 u29 u30 u31 u32 u33 u34 u35 u36 u37 u38 u39 u40 u41 u42 u43 u44 u45 u46 u47 u48 u49 u50 u51 u52 u53 u54 u55 u56 u57 u58 u59 u60 u61 u62 u63 u64 u65 u66 u67 u68 u69 u70 u71 u72 u73 u74 u75 u76 u77 u78 u79 u80 u81 u82 u83 u84 u85 u86 u87 u88 u89 u90 u91 u92 u93 u94 u95 u96 u97 u98 u99 u100 u101 u102 u103 u104 u105 u106 u107 u108 u109 u110 u111 u112 u113 u114 u115 u116 u117 u118 u119 u120 u121 u122 u123 u124 u125 u126 u127 u128 u129 u130 u131 u132 u133 u134 u135 u136 u137 u138 u139 u140 u141 u142 u143 u144 u145 u146 u147 u148 u149 u150 u151 u152 u153 u154 u155 u156 u157 u158 u159 u160 u161 u162 u163 u164 u165 u166 u167 u168 u169 u170 u171 u172 u173 u174 u175 u176 u177 u178 u179 u180 u181 u182 u183 u184 u185 u186 u187 u188 u189 u190 u191 u192 u193 u194 u195 u196 u197 u198 u199 u200 : Value)
    (hK : ∀ (v138 v139 v140 v141 v142 v143 v144 v145 v146 : Value)  (W9 : World), w = W9 → Q .normal ({ tmps := (u0 :: u1 :: u2 :: u3 :: u4 :: u5 :: u6 :: u7 :: u8 :: u9 :: u10 :: Value.int .i64 (m : Int) :: u12 :: Value.int .i64 (c : Int) :: u14 :: u15 :: Value.pointer (some ⟨gd, 0, none⟩) :: u17 :: u18 :: u19 :: u20 :: u21 :: u22 :: u23 :: u24 :: u25 :: u26 :: u27 :: u28 :: u29 :: u30 :: u31 :: u32 :: u33 :: u34 :: u35 :: u36 :: u37 :: u38 :: u39 :: u40 :: u41 :: u42 :: u43 :: u44 :: u45 :: u46 :: u47 :: u48 :: u49 :: u50 :: u51 :: u52 :: u53 :: u54 :: u55 :: u56 :: u57 :: u58 :: u59 :: u60 :: u61 :: u62 :: u63 :: u64 :: u65 :: u66 :: u67 :: u68 :: u69 :: u70 :: u71 :: u72 :: u73 :: u74 :: u75 :: u76 :: u77 :: u78 :: u79 :: u80 :: u81 :: u82 :: u83 :: u84 :: u85 :: u86 :: u87 :: u88 :: u89 :: u90 :: u91 :: u92 :: u93 :: u94 :: u95 :: u96 :: u97 :: u98 :: u99 :: u100 :: u101 :: u102 :: u103 :: u104 :: u105 :: u106 :: u107 :: u108 :: u109 :: u110 :: u111 :: u112 :: u113 :: u114 :: u115 :: u116 :: u117 :: u118 :: u119 :: u120 :: u121 :: u122 :: u123 :: u124 :: u125 :: u126 :: u127 :: u128 :: u129 :: u130 :: u131 :: u132 :: u133 :: u134 :: u135 :: u136 :: u137 :: v138 :: v139 :: v140 :: v141 :: v142 :: v143 :: v144 :: v145 :: v146 :: Value.bool (decide (x = c ∧ y = m)) :: u148 :: u149 :: u150 :: u151 :: u152 :: u153 :: u154 :: u155 :: u156 :: u157 :: u158 :: u159 :: u160 :: u161 :: u162 :: u163 :: u164 :: u165 :: u166 :: u167 :: u168 :: u169 :: u170 :: u171 :: u172 :: u173 :: u174 :: u175 :: u176 :: u177 :: u178 :: u179 :: u180 :: u181 :: u182 :: u183 :: u184 :: u185 :: u186 :: u187 :: u188 :: u189 :: u190 :: u191 :: u192 :: u193 :: u194 :: u195 :: u196 :: u197 :: u198 :: u199 :: u200 :: []).toArray, defers := [] } : Act) W9) :
    Code.wp Tryz.prog cr25 Q ({ tmps := (u0 :: u1 :: u2 :: u3 :: u4 :: u5 :: u6 :: u7 :: u8 :: u9 :: u10 :: Value.int .i64 (m : Int) :: u12 :: Value.int .i64 (c : Int) :: u14 :: u15 :: Value.pointer (some ⟨gd, 0, none⟩) :: u17 :: u18 :: u19 :: u20 :: u21 :: u22 :: u23 :: u24 :: u25 :: u26 :: u27 :: u28 :: u29 :: u30 :: u31 :: u32 :: u33 :: u34 :: u35 :: u36 :: u37 :: u38 :: u39 :: u40 :: u41 :: u42 :: u43 :: u44 :: u45 :: u46 :: u47 :: u48 :: u49 :: u50 :: u51 :: u52 :: u53 :: u54 :: u55 :: u56 :: u57 :: u58 :: u59 :: u60 :: u61 :: u62 :: u63 :: u64 :: u65 :: u66 :: u67 :: u68 :: u69 :: u70 :: u71 :: u72 :: u73 :: u74 :: u75 :: u76 :: u77 :: u78 :: u79 :: u80 :: u81 :: u82 :: u83 :: u84 :: u85 :: u86 :: u87 :: u88 :: u89 :: u90 :: u91 :: u92 :: u93 :: u94 :: u95 :: u96 :: u97 :: u98 :: u99 :: u100 :: u101 :: u102 :: u103 :: u104 :: u105 :: u106 :: u107 :: u108 :: u109 :: u110 :: u111 :: u112 :: u113 :: u114 :: u115 :: u116 :: u117 :: u118 :: u119 :: u120 :: u121 :: u122 :: u123 :: u124 :: u125 :: u126 :: u127 :: u128 :: u129 :: u130 :: u131 :: u132 :: u133 :: u134 :: u135 :: u136 :: u137 :: u138 :: u139 :: u140 :: u141 :: u142 :: u143 :: u144 :: u145 :: u146 :: u147 :: u148 :: u149 :: u150 :: u151 :: u152 :: u153 :: u154 :: u155 :: u156 :: u157 :: u158 :: u159 :: u160 :: u161 :: u162 :: u163 :: u164 :: u165 :: u166 :: u167 :: u168 :: u169 :: u170 :: u171 :: u172 :: u173 :: u174 :: u175 :: u176 :: u177 :: u178 :: u179 :: u180 :: u181 :: u182 :: u183 :: u184 :: u185 :: u186 :: u187 :: u188 :: u189 :: u190 :: u191 :: u192 :: u193 :: u194 :: u195 :: u196 :: u197 :: u198 :: u199 :: u200 :: []).toArray, defers := [] } : Act) w := by
  replace hK := Lib.hid hK
  by_cases e1 : x = c
  · subst e1
    by_cases e2 : y = m
    · subst e2
      rw [decide_eq_true ⟨rfl, rfl⟩] at hK
      conv => arg 2; whnf
      go_wp2_with fail
      exact hK.out _ _ _ _ _ _ _ _ _ _ rfl
    · rw [decide_eq_false (fun e => e2 e.2)] at hK
      have zb : (y == (m : Int)) = false := by simp [e2]
      conv => arg 2; whnf
      go_wp2_with fail
      exact hK.out _ _ _ _ _ _ _ _ _ _ rfl
  · rw [decide_eq_false (fun e => e1 e.1)] at hK
    conv => arg 2; whnf
    go_wp2_with fail
    exact hK.out _ _ _ _ _ _ _ _ _ _ rfl
set_option maxHeartbeats 4000000 in
set_option maxRecDepth 100000 in
theorem r27_any {Q : Exit → Act → World → Prop} (gd m c : Nat) (x y : Int) (w : World)
    (h1 : w.cell? ⟨gd, 4, none⟩ = some (.int .i64 x)) (h2 : w.cell? ⟨gd, 1, none⟩ = some (.int .i64 y))
    (u0 u1 u2 u3 u4 u5 u6 u7 u8 u9 u10 u12 u14 u15 u17 u18 u19 u20 u21 u22 u23 u24 u25 u26 u27 u28 u29 u30 u31 u32 u33 u34 u35 u36 u37 u38 u39 u40 u41 u42 u43 u44 u45 u46 u47 u48 u49 u50 u51 u52 u53 u54 u55 u56 u57 u58 u59 u60 u61 u62 u63 u64 u65 u66 u67 u68 u69 u70 u71 u72 u73 u74 u75 u76 u77 u78 u79 u80 u81 u82 u83 u84 u85 u86 u87 u88 u89 u90 u91 u92 u93 u94 u95 u96 u97 u98 u99 u100 u101 u102 u103 u104 u105 u106 u107 u108 u109 u110 u111 u112 u113 u114 u115 u116 u117 u118 u119 u120 u121 u122 u123 u124 u125 u126 u127 u128 u129 u130 u131 u132 u133 u134 u135 u136 u137 u138 u139 u140 u141 u142 u143 u144 u145 u146 u147 u148 u149 u150 u151 u152 u153 u154 u155 u156 u157 u158 u159 u160 u161 u162 u163 u164 u165 u166 u167 u168 u169 u170 u171 u172 u173 u174 u175 u176 u177 u178 u179 u180 u181 u182 u183 u184 u185 u186 u187 u188 u189 u190 u191 u192 u193 u194 u195 u196 u197 u198 u199 u200 : Value)
    (hK : ∀ (v153 v154 v155 v156 v157 v158 v159 v160 v161 : Value)  (W9 : World), w = W9 → Q .normal ({ tmps := (u0 :: u1 :: u2 :: u3 :: u4 :: u5 :: u6 :: u7 :: u8 :: u9 :: u10 :: Value.int .i64 (m : Int) :: u12 :: Value.int .i64 (c : Int) :: u14 :: u15 :: Value.pointer (some ⟨gd, 0, none⟩) :: u17 :: u18 :: u19 :: u20 :: u21 :: u22 :: u23 :: u24 :: u25 :: u26 :: u27 :: u28 :: u29 :: u30 :: u31 :: u32 :: u33 :: u34 :: u35 :: u36 :: u37 :: u38 :: u39 :: u40 :: u41 :: u42 :: u43 :: u44 :: u45 :: u46 :: u47 :: u48 :: u49 :: u50 :: u51 :: u52 :: u53 :: u54 :: u55 :: u56 :: u57 :: u58 :: u59 :: u60 :: u61 :: u62 :: u63 :: u64 :: u65 :: u66 :: u67 :: u68 :: u69 :: u70 :: u71 :: u72 :: u73 :: u74 :: u75 :: u76 :: u77 :: u78 :: u79 :: u80 :: u81 :: u82 :: u83 :: u84 :: u85 :: u86 :: u87 :: u88 :: u89 :: u90 :: u91 :: u92 :: u93 :: u94 :: u95 :: u96 :: u97 :: u98 :: u99 :: u100 :: u101 :: u102 :: u103 :: u104 :: u105 :: u106 :: u107 :: u108 :: u109 :: u110 :: u111 :: u112 :: u113 :: u114 :: u115 :: u116 :: u117 :: u118 :: u119 :: u120 :: u121 :: u122 :: u123 :: u124 :: u125 :: u126 :: u127 :: u128 :: u129 :: u130 :: u131 :: u132 :: u133 :: u134 :: u135 :: u136 :: u137 :: u138 :: u139 :: u140 :: u141 :: u142 :: u143 :: u144 :: u145 :: u146 :: u147 :: u148 :: u149 :: u150 :: u151 :: u152 :: v153 :: v154 :: v155 :: v156 :: v157 :: v158 :: v159 :: v160 :: v161 :: Value.bool (decide (x = c ∧ y = m)) :: u163 :: u164 :: u165 :: u166 :: u167 :: u168 :: u169 :: u170 :: u171 :: u172 :: u173 :: u174 :: u175 :: u176 :: u177 :: u178 :: u179 :: u180 :: u181 :: u182 :: u183 :: u184 :: u185 :: u186 :: u187 :: u188 :: u189 :: u190 :: u191 :: u192 :: u193 :: u194 :: u195 :: u196 :: u197 :: u198 :: u199 :: u200 :: []).toArray, defers := [] } : Act) W9) :
    Code.wp Tryz.prog cr27 Q ({ tmps := (u0 :: u1 :: u2 :: u3 :: u4 :: u5 :: u6 :: u7 :: u8 :: u9 :: u10 :: Value.int .i64 (m : Int) :: u12 :: Value.int .i64 (c : Int) :: u14 :: u15 :: Value.pointer (some ⟨gd, 0, none⟩) :: u17 :: u18 :: u19 :: u20 :: u21 :: u22 :: u23 :: u24 :: u25 :: u26 :: u27 :: u28 :: u29 :: u30 :: u31 :: u32 :: u33 :: u34 :: u35 :: u36 :: u37 :: u38 :: u39 :: u40 :: u41 :: u42 :: u43 :: u44 :: u45 :: u46 :: u47 :: u48 :: u49 :: u50 :: u51 :: u52 :: u53 :: u54 :: u55 :: u56 :: u57 :: u58 :: u59 :: u60 :: u61 :: u62 :: u63 :: u64 :: u65 :: u66 :: u67 :: u68 :: u69 :: u70 :: u71 :: u72 :: u73 :: u74 :: u75 :: u76 :: u77 :: u78 :: u79 :: u80 :: u81 :: u82 :: u83 :: u84 :: u85 :: u86 :: u87 :: u88 :: u89 :: u90 :: u91 :: u92 :: u93 :: u94 :: u95 :: u96 :: u97 :: u98 :: u99 :: u100 :: u101 :: u102 :: u103 :: u104 :: u105 :: u106 :: u107 :: u108 :: u109 :: u110 :: u111 :: u112 :: u113 :: u114 :: u115 :: u116 :: u117 :: u118 :: u119 :: u120 :: u121 :: u122 :: u123 :: u124 :: u125 :: u126 :: u127 :: u128 :: u129 :: u130 :: u131 :: u132 :: u133 :: u134 :: u135 :: u136 :: u137 :: u138 :: u139 :: u140 :: u141 :: u142 :: u143 :: u144 :: u145 :: u146 :: u147 :: u148 :: u149 :: u150 :: u151 :: u152 :: u153 :: u154 :: u155 :: u156 :: u157 :: u158 :: u159 :: u160 :: u161 :: u162 :: u163 :: u164 :: u165 :: u166 :: u167 :: u168 :: u169 :: u170 :: u171 :: u172 :: u173 :: u174 :: u175 :: u176 :: u177 :: u178 :: u179 :: u180 :: u181 :: u182 :: u183 :: u184 :: u185 :: u186 :: u187 :: u188 :: u189 :: u190 :: u191 :: u192 :: u193 :: u194 :: u195 :: u196 :: u197 :: u198 :: u199 :: u200 :: []).toArray, defers := [] } : Act) w := by
  replace hK := Lib.hid hK
  by_cases e1 : x = c
  · subst e1
    by_cases e2 : y = m
    · subst e2
      rw [decide_eq_true ⟨rfl, rfl⟩] at hK
      conv => arg 2; whnf
      go_wp2_with fail
      exact hK.out _ _ _ _ _ _ _ _ _ _ rfl
    · rw [decide_eq_false (fun e => e2 e.2)] at hK
      have zb : (y == (m : Int)) = false := by simp [e2]
      conv => arg 2; whnf
      go_wp2_with fail
      exact hK.out _ _ _ _ _ _ _ _ _ _ rfl
  · rw [decide_eq_false (fun e => e1 e.1)] at hK
    conv => arg 2; whnf
    go_wp2_with fail
    exact hK.out _ _ _ _ _ _ _ _ _ _ rfl
set_option maxHeartbeats 4000000 in
set_option maxRecDepth 100000 in
theorem r29_any {Q : Exit → Act → World → Prop} (gd m c : Nat) (x y : Int) (w : World)
    (h1 : w.cell? ⟨gd, 4, none⟩ = some (.int .i64 x)) (h2 : w.cell? ⟨gd, 2, none⟩ = some (.int .i64 y))
    (u0 u1 u2 u3 u4 u5 u6 u7 u8 u9 u10 u12 u14 u15 u17 u18 u19 u20 u21 u22 u23 u24 u25 u26 u27 u28 u29 u30 u31 u32 u33 u34 u35 u36 u37 u38 u39 u40 u41 u42 u43 u44 u45 u46 u47 u48 u49 u50 u51 u52 u53 u54 u55 u56 u57 u58 u59 u60 u61 u62 u63 u64 u65 u66 u67 u68 u69 u70 u71 u72 u73 u74 u75 u76 u77 u78 u79 u80 u81 u82 u83 u84 u85 u86 u87 u88 u89 u90 u91 u92 u93 u94 u95 u96 u97 u98 u99 u100 u101 u102 u103 u104 u105 u106 u107 u108 u109 u110 u111 u112 u113 u114 u115 u116 u117 u118 u119 u120 u121 u122 u123 u124 u125 u126 u127 u128 u129 u130 u131 u132 u133 u134 u135 u136 u137 u138 u139 u140 u141 u142 u143 u144 u145 u146 u147 u148 u149 u150 u151 u152 u153 u154 u155 u156 u157 u158 u159 u160 u161 u162 u163 u164 u165 u166 u167 u168 u169 u170 u171 u172 u173 u174 u175 u176 u177 u178 u179 u180 u181 u182 u183 u184 u185 u186 u187 u188 u189 u190 u191 u192 u193 u194 u195 u196 u197 u198 u199 u200 : Value)
    (hK : ∀ (v168 v169 v170 v171 v172 v173 v174 v175 v176 : Value)  (W9 : World), w = W9 → Q .normal ({ tmps := (u0 :: u1 :: u2 :: u3 :: u4 :: u5 :: u6 :: u7 :: u8 :: u9 :: u10 :: Value.int .i64 (m : Int) :: u12 :: Value.int .i64 (c : Int) :: u14 :: u15 :: Value.pointer (some ⟨gd, 0, none⟩) :: u17 :: u18 :: u19 :: u20 :: u21 :: u22 :: u23 :: u24 :: u25 :: u26 :: u27 :: u28 :: u29 :: u30 :: u31 :: u32 :: u33 :: u34 :: u35 :: u36 :: u37 :: u38 :: u39 :: u40 :: u41 :: u42 :: u43 :: u44 :: u45 :: u46 :: u47 :: u48 :: u49 :: u50 :: u51 :: u52 :: u53 :: u54 :: u55 :: u56 :: u57 :: u58 :: u59 :: u60 :: u61 :: u62 :: u63 :: u64 :: u65 :: u66 :: u67 :: u68 :: u69 :: u70 :: u71 :: u72 :: u73 :: u74 :: u75 :: u76 :: u77 :: u78 :: u79 :: u80 :: u81 :: u82 :: u83 :: u84 :: u85 :: u86 :: u87 :: u88 :: u89 :: u90 :: u91 :: u92 :: u93 :: u94 :: u95 :: u96 :: u97 :: u98 :: u99 :: u100 :: u101 :: u102 :: u103 :: u104 :: u105 :: u106 :: u107 :: u108 :: u109 :: u110 :: u111 :: u112 :: u113 :: u114 :: u115 :: u116 :: u117 :: u118 :: u119 :: u120 :: u121 :: u122 :: u123 :: u124 :: u125 :: u126 :: u127 :: u128 :: u129 :: u130 :: u131 :: u132 :: u133 :: u134 :: u135 :: u136 :: u137 :: u138 :: u139 :: u140 :: u141 :: u142 :: u143 :: u144 :: u145 :: u146 :: u147 :: u148 :: u149 :: u150 :: u151 :: u152 :: u153 :: u154 :: u155 :: u156 :: u157 :: u158 :: u159 :: u160 :: u161 :: u162 :: u163 :: u164 :: u165 :: u166 :: u167 :: v168 :: v169 :: v170 :: v171 :: v172 :: v173 :: v174 :: v175 :: v176 :: Value.bool (decide (x = c ∧ y = m)) :: u178 :: u179 :: u180 :: u181 :: u182 :: u183 :: u184 :: u185 :: u186 :: u187 :: u188 :: u189 :: u190 :: u191 :: u192 :: u193 :: u194 :: u195 :: u196 :: u197 :: u198 :: u199 :: u200 :: []).toArray, defers := [] } : Act) W9) :
    Code.wp Tryz.prog cr29 Q ({ tmps := (u0 :: u1 :: u2 :: u3 :: u4 :: u5 :: u6 :: u7 :: u8 :: u9 :: u10 :: Value.int .i64 (m : Int) :: u12 :: Value.int .i64 (c : Int) :: u14 :: u15 :: Value.pointer (some ⟨gd, 0, none⟩) :: u17 :: u18 :: u19 :: u20 :: u21 :: u22 :: u23 :: u24 :: u25 :: u26 :: u27 :: u28 :: u29 :: u30 :: u31 :: u32 :: u33 :: u34 :: u35 :: u36 :: u37 :: u38 :: u39 :: u40 :: u41 :: u42 :: u43 :: u44 :: u45 :: u46 :: u47 :: u48 :: u49 :: u50 :: u51 :: u52 :: u53 :: u54 :: u55 :: u56 :: u57 :: u58 :: u59 :: u60 :: u61 :: u62 :: u63 :: u64 :: u65 :: u66 :: u67 :: u68 :: u69 :: u70 :: u71 :: u72 :: u73 :: u74 :: u75 :: u76 :: u77 :: u78 :: u79 :: u80 :: u81 :: u82 :: u83 :: u84 :: u85 :: u86 :: u87 :: u88 :: u89 :: u90 :: u91 :: u92 :: u93 :: u94 :: u95 :: u96 :: u97 :: u98 :: u99 :: u100 :: u101 :: u102 :: u103 :: u104 :: u105 :: u106 :: u107 :: u108 :: u109 :: u110 :: u111 :: u112 :: u113 :: u114 :: u115 :: u116 :: u117 :: u118 :: u119 :: u120 :: u121 :: u122 :: u123 :: u124 :: u125 :: u126 :: u127 :: u128 :: u129 :: u130 :: u131 :: u132 :: u133 :: u134 :: u135 :: u136 :: u137 :: u138 :: u139 :: u140 :: u141 :: u142 :: u143 :: u144 :: u145 :: u146 :: u147 :: u148 :: u149 :: u150 :: u151 :: u152 :: u153 :: u154 :: u155 :: u156 :: u157 :: u158 :: u159 :: u160 :: u161 :: u162 :: u163 :: u164 :: u165 :: u166 :: u167 :: u168 :: u169 :: u170 :: u171 :: u172 :: u173 :: u174 :: u175 :: u176 :: u177 :: u178 :: u179 :: u180 :: u181 :: u182 :: u183 :: u184 :: u185 :: u186 :: u187 :: u188 :: u189 :: u190 :: u191 :: u192 :: u193 :: u194 :: u195 :: u196 :: u197 :: u198 :: u199 :: u200 :: []).toArray, defers := [] } : Act) w := by
  replace hK := Lib.hid hK
  by_cases e1 : x = c
  · subst e1
    by_cases e2 : y = m
    · subst e2
      rw [decide_eq_true ⟨rfl, rfl⟩] at hK
      conv => arg 2; whnf
      go_wp2_with fail
      exact hK.out _ _ _ _ _ _ _ _ _ _ rfl
    · rw [decide_eq_false (fun e => e2 e.2)] at hK
      have zb : (y == (m : Int)) = false := by simp [e2]
      conv => arg 2; whnf
      go_wp2_with fail
      exact hK.out _ _ _ _ _ _ _ _ _ _ rfl
  · rw [decide_eq_false (fun e => e1 e.1)] at hK
    conv => arg 2; whnf
    go_wp2_with fail
    exact hK.out _ _ _ _ _ _ _ _ _ _ rfl
end Go.Proofs.YthocnlalahknjaaGreat.Dd
