/- The reference's Behind: the loops. -/
import Derived.Test.YthocnlalahknjaaGreatBA
namespace Go.Proofs.YthocnlalahknjaaGreat.Dd
open Go.RowKit Go.Maps
set_option linter.unusedVariables false
theorem UO.pre {w wr : World} {u : Value} {l : List Du} (h : UO w wr u l) (o : Obj) : (wr.alloc o).ownsRow 0 62 4 u l.length (cellsU l) := orow_kept h.row fun g' hg' => Below.heap_alloc _ _ _ (World.ownsRow.lt h.row g' hg').2
theorem UO.app {w wr w' : World} {u v' : Value} {l : List Du} {x : Du} {o : Obj} (h : UO w wr u l) (h1 : w'.ownsRow 0 62 4 v' (l.length + 1) (cellsU l ++ x.cs)) (h2 : (wr.alloc o).grownBy w' u.ownBlock)
    (h3 : ∀ g', v'.ownBlock = some g' → u.ownBlock = some g' ∨ wr.heap.size + 1 ≤ g') : UO w w' v' (l ++ [x]) := by
  refine ⟨?_, fun g' hg' => ?_, below_grown (h.bl.alloc h.bl.size o) h2 h.own (Nat.le_refl _)⟩
  · rw [cellsU_app, List.length_append]; exact h1
  · rcases h3 g' hg' with h4 | h4
    · exact h.own g' h4
    · have := h.bl.size; omega
/-- what was paid of a currency, as it stands -/
def pv (rows : List (List Int)) (m c : Nat) : Int := (rows.getD m []).getD c 0
theorem pv_at {rows : List (List Int)} {m c : Nat} (h : m < rows.length) : pv rows m c = (rows[m]).getD c 0 := by
  have e1 : rows.getD m [] = rows[m] := by rw [List.getD_eq_getElem?_getD, List.getElem?_eq_getElem h]; rfl
  unfold pv; rw [e1]
theorem pv_out {rows : List (List Int)} {m c : Nat} (h : ¬ m < rows.length) : pv rows m c = 0 := by
  have e1 : rows.getD m [] = [] := by rw [List.getD_eq_getElem?_getD, List.getElem?_eq_none (by omega)]; rfl
  unfold pv; rw [e1]; rfl
set_option maxHeartbeats 4000000 in
set_option maxRecDepth 100000 in
theorem k29_any {Q : Exit → Act → World → Prop} (m c P cp : Nat) (pp : Option Addr) (rows : List (List Int)) (w : World)
    (hN : NSeq w (.slice pp P cp) rows) (hP : rows.length = P) (hP0 : P ≤ 4611686018427387904) (hr : ∀ r ∈ rows, r.length ≤ 4611686018427387904)
    (u0 u2 u3 u4 u5 u6 u7 u8 u9 u10 u11 u14 u15 u16 u17 u18 u19 u20 u21 u22 u23 u24 u25 u26 u27 u28 u29 u30 u31 u32 u33 u34 u35 u36 u37 u38 u39 u40 u41 u42 u43 u44 u45 u46 u47 u48 u49 u50 u51 u52 u53 u54 u55 u56 u57 u58 u59 u60 u61 u62 u63 u64 u65 u66 u67 u68 u69 u70 u71 u72 u73 u74 u75 u76 u77 u78 u79 u80 u81 u82 u83 u84 u85 u86 u87 u88 u89 u90 u91 u92 u93 u94 u95 u96 u97 u98 u99 u100 u101 u102 u103 u104 u105 u106 u107 u108 u109 u110 u111 u112 u113 u114 u115 u116 u117 u118 u119 u120 u121 u122 u123 u124 u125 u126 u127 u128 u129 u130 u131 u132 u133 u134 u135 u136 u137 u138 u139 u140 u141 u142 u143 u144 u145 u146 u147 u148 u149 u150 u151 u152 u153 u154 u155 u156 u157 u158 u159 u160 u161 u162 u163 u164 u165 u166 u167 u168 u169 u170 u171 u172 u173 : Value)
    (hK : ∀ (v129 v130 v131 v132 v133 v134 v135 v136 v137 v138 v139 v140 v141 v142 v143 v144 v145 v146 v147 v148 v149 v150 : Value)  (W9 : World), w = W9 → Q .normal ({ tmps := (u0 :: Value.slice pp P cp :: u2 :: u3 :: u4 :: u5 :: u6 :: u7 :: u8 :: u9 :: u10 :: u11 :: Value.int .i64 (m : Int) :: Value.int .i64 (c : Int) :: u14 :: u15 :: u16 :: u17 :: u18 :: u19 :: u20 :: u21 :: u22 :: u23 :: u24 :: u25 :: u26 :: u27 :: u28 :: u29 :: u30 :: u31 :: u32 :: u33 :: u34 :: u35 :: u36 :: u37 :: u38 :: u39 :: u40 :: u41 :: u42 :: u43 :: u44 :: u45 :: u46 :: u47 :: u48 :: u49 :: u50 :: u51 :: u52 :: u53 :: u54 :: u55 :: u56 :: u57 :: u58 :: u59 :: u60 :: u61 :: u62 :: u63 :: u64 :: u65 :: u66 :: u67 :: u68 :: u69 :: u70 :: u71 :: u72 :: u73 :: u74 :: u75 :: u76 :: u77 :: u78 :: u79 :: u80 :: u81 :: u82 :: u83 :: u84 :: u85 :: u86 :: u87 :: u88 :: u89 :: u90 :: u91 :: u92 :: u93 :: u94 :: u95 :: u96 :: u97 :: u98 :: u99 :: u100 :: u101 :: u102 :: u103 :: u104 :: u105 :: u106 :: u107 :: u108 :: u109 :: u110 :: u111 :: u112 :: u113 :: u114 :: u115 :: u116 :: u117 :: u118 :: u119 :: u120 :: u121 :: u122 :: u123 :: u124 :: u125 :: u126 :: u127 :: u128 :: v129 :: v130 :: v131 :: v132 :: v133 :: v134 :: v135 :: v136 :: v137 :: v138 :: v139 :: v140 :: v141 :: v142 :: v143 :: v144 :: v145 :: v146 :: v147 :: v148 :: v149 :: v150 :: Value.bool (decide (0 < pv rows m c)) :: u152 :: u153 :: u154 :: u155 :: u156 :: u157 :: u158 :: u159 :: u160 :: u161 :: u162 :: u163 :: u164 :: u165 :: u166 :: u167 :: u168 :: u169 :: u170 :: u171 :: u172 :: u173 :: []).toArray, defers := [] } : Act) W9) :
    Code.wp Tryz.prog ck29 Q ({ tmps := (u0 :: Value.slice pp P cp :: u2 :: u3 :: u4 :: u5 :: u6 :: u7 :: u8 :: u9 :: u10 :: u11 :: Value.int .i64 (m : Int) :: Value.int .i64 (c : Int) :: u14 :: u15 :: u16 :: u17 :: u18 :: u19 :: u20 :: u21 :: u22 :: u23 :: u24 :: u25 :: u26 :: u27 :: u28 :: u29 :: u30 :: u31 :: u32 :: u33 :: u34 :: u35 :: u36 :: u37 :: u38 :: u39 :: u40 :: u41 :: u42 :: u43 :: u44 :: u45 :: u46 :: u47 :: u48 :: u49 :: u50 :: u51 :: u52 :: u53 :: u54 :: u55 :: u56 :: u57 :: u58 :: u59 :: u60 :: u61 :: u62 :: u63 :: u64 :: u65 :: u66 :: u67 :: u68 :: u69 :: u70 :: u71 :: u72 :: u73 :: u74 :: u75 :: u76 :: u77 :: u78 :: u79 :: u80 :: u81 :: u82 :: u83 :: u84 :: u85 :: u86 :: u87 :: u88 :: u89 :: u90 :: u91 :: u92 :: u93 :: u94 :: u95 :: u96 :: u97 :: u98 :: u99 :: u100 :: u101 :: u102 :: u103 :: u104 :: u105 :: u106 :: u107 :: u108 :: u109 :: u110 :: u111 :: u112 :: u113 :: u114 :: u115 :: u116 :: u117 :: u118 :: u119 :: u120 :: u121 :: u122 :: u123 :: u124 :: u125 :: u126 :: u127 :: u128 :: u129 :: u130 :: u131 :: u132 :: u133 :: u134 :: u135 :: u136 :: u137 :: u138 :: u139 :: u140 :: u141 :: u142 :: u143 :: u144 :: u145 :: u146 :: u147 :: u148 :: u149 :: u150 :: u151 :: u152 :: u153 :: u154 :: u155 :: u156 :: u157 :: u158 :: u159 :: u160 :: u161 :: u162 :: u163 :: u164 :: u165 :: u166 :: u167 :: u168 :: u169 :: u170 :: u171 :: u172 :: u173 :: []).toArray, defers := [] } : Act) w := by
  replace hK := Lib.hid hK
  obtain ⟨a1, c1, e1, hrd⟩ := hN
  obtain ⟨rfl, -, rfl⟩ : pp = a1 ∧ P = rows.length ∧ cp = c1 := by injection e1 with x1 x2 x3; exact ⟨x1, x2, x3⟩
  clear e1
  by_cases h1 : m < P
  · have hml : m < rows.length := by omega
    have zm : (m : Int) < (P : Int) := by omega
    obtain ⟨b, off, rfl, hlt, hall⟩ := hrd.resolve_left (by rintro rfl; simp at hml)
    obtain ⟨pr, cr, hcell, hs⟩ := hall m hml
    have hrl := hr _ (List.getElem_mem hml)
    have hp : pv rows m c = (rows[m]).getD c 0 := pv_at hml
    rw [hp] at hK
    replace hp := True.intro
    generalize rows[m] = row at *
    obtain ⟨k, hk⟩ : ∃ k, k = row.length := ⟨_, rfl⟩
    rw [← hk] at hcell hs hrl
    obtain ⟨-, -, -, hcs⟩ := hs
    by_cases h2 : c < k
    · have zc : (c : Int) < (k : Int) := by omega
      obtain ⟨b2, off2, rfl, hlt2, hall2⟩ := hcs.resolve_left (by omega)
      have hx := hall2 c h2
      generalize row.getD c 0 = x at *
      clear hall hall2 hcs hrd
      replace hk := Lib.hid hk
      replace hP := Lib.hid hP
      by_cases h3 : 0 < x
      · have zx : (0 : Int) < x := h3
        rw [decide_eq_true h3] at hK
        conv => arg 2; whnf
        go_wp2_with fail
        exact hK.out _ _ _ _ _ _ _ _ _ _ _ _ _ _ _ _ _ _ _ _ _ _ _ rfl
      · rw [decide_eq_false h3] at hK
        conv => arg 2; whnf
        go_wp2_with fail
        exact hK.out _ _ _ _ _ _ _ _ _ _ _ _ _ _ _ _ _ _ _ _ _ _ _ rfl
    · have zc : ¬ (c : Int) < (k : Int) := by omega
      have hx : row.getD c 0 = 0 := by rw [List.getD_eq_getElem?_getD, List.getElem?_eq_none (by omega)]; rfl
      rw [hx, decide_eq_false (by omega)] at hK
      clear hall hcs hrd
      replace hx := True.intro
      replace hk := Lib.hid hk
      replace hP := Lib.hid hP
      conv => arg 2; whnf
      go_wp2_with fail
      exact hK.out _ _ _ _ _ _ _ _ _ _ _ _ _ _ _ _ _ _ _ _ _ _ _ rfl
  · have zm : ¬ (m : Int) < (P : Int) := by omega
    have hx : pv rows m c = 0 := pv_out (by omega)
    rw [hx, decide_eq_false (by omega)] at hK
    clear hrd
    replace hx := True.intro
    replace hP := Lib.hid hP
    conv => arg 2; whnf
    go_wp2_with fail
    exact hK.out _ _ _ _ _ _ _ _ _ _ _ _ _ _ _ _ _ _ _ _ _ _ _ rfl
set_option maxHeartbeats 4000000 in
set_option maxRecDepth 100000 in
theorem k30b_any {Q : Exit → Act → World → Prop} (m c P cp : Nat) (pp : Option Addr) (rows : List (List Int)) (S : Int) (w : World)
    (hN : NSeq w (.slice pp P cp) rows) (hp0 : 0 < pv rows m c) (hS0 : 0 ≤ S) (hS1 : S ≤ 9223372036854775807)
    (u0 u2 u3 u4 u5 u6 u7 u8 u9 u10 u11 u14 u15 u17 u18 u19 u20 u21 u22 u23 u24 u25 u26 u27 u28 u29 u30 u31 u32 u33 u34 u35 u36 u37 u38 u39 u40 u41 u42 u43 u44 u45 u46 u47 u48 u49 u50 u51 u52 u53 u54 u55 u56 u57 u58 u59 u60 u61 u62 u63 u64 u65 u66 u67 u68 u69 u70 u71 u72 u73 u74 u75 u76 u77 u78 u79 u80 u81 u82 u83 u84 u85 u86 u87 u88 u89 u90 u91 u92 u93 u94 u95 u96 u97 u98 u99 u100 u101 u102 u103 u104 u105 u106 u107 u108 u109 u110 u111 u112 u113 u114 u115 u116 u117 u118 u119 u120 u121 u122 u123 u124 u125 u126 u127 u128 u129 u130 u131 u132 u133 u134 u135 u136 u137 u138 u139 u140 u141 u142 u143 u144 u145 u146 u147 u148 u149 u150 u152 u153 u154 u155 u156 u157 u158 u159 u160 u161 u162 u163 u164 u165 u166 u167 u168 u169 u170 u171 u172 u173 : Value)
    (hK : ∀ (v152 v153 v154 v155 v156 v157 v158 v159 v160 v161 v162 : Value)  (W9 : World), w = W9 → Q .normal ({ tmps := (u0 :: Value.slice pp P cp :: u2 :: u3 :: u4 :: u5 :: u6 :: u7 :: u8 :: u9 :: u10 :: u11 :: Value.int .i64 (m : Int) :: Value.int .i64 (c : Int) :: u14 :: u15 :: Value.int .i64 (S - min (pv rows m c) S) :: u17 :: u18 :: u19 :: u20 :: u21 :: u22 :: u23 :: u24 :: u25 :: u26 :: u27 :: u28 :: u29 :: u30 :: u31 :: u32 :: u33 :: u34 :: u35 :: u36 :: u37 :: u38 :: u39 :: u40 :: u41 :: u42 :: u43 :: u44 :: u45 :: u46 :: u47 :: u48 :: u49 :: u50 :: u51 :: u52 :: u53 :: u54 :: u55 :: u56 :: u57 :: u58 :: u59 :: u60 :: u61 :: u62 :: u63 :: u64 :: u65 :: u66 :: u67 :: u68 :: u69 :: u70 :: u71 :: u72 :: u73 :: u74 :: u75 :: u76 :: u77 :: u78 :: u79 :: u80 :: u81 :: u82 :: u83 :: u84 :: u85 :: u86 :: u87 :: u88 :: u89 :: u90 :: u91 :: u92 :: u93 :: u94 :: u95 :: u96 :: u97 :: u98 :: u99 :: u100 :: u101 :: u102 :: u103 :: u104 :: u105 :: u106 :: u107 :: u108 :: u109 :: u110 :: u111 :: u112 :: u113 :: u114 :: u115 :: u116 :: u117 :: u118 :: u119 :: u120 :: u121 :: u122 :: u123 :: u124 :: u125 :: u126 :: u127 :: u128 :: u129 :: u130 :: u131 :: u132 :: u133 :: u134 :: u135 :: u136 :: u137 :: u138 :: u139 :: u140 :: u141 :: u142 :: u143 :: u144 :: u145 :: u146 :: u147 :: u148 :: u149 :: u150 :: Value.bool true :: v152 :: v153 :: v154 :: v155 :: v156 :: v157 :: v158 :: v159 :: v160 :: v161 :: v162 :: u163 :: u164 :: u165 :: u166 :: u167 :: u168 :: u169 :: u170 :: u171 :: u172 :: u173 :: []).toArray, defers := [] } : Act) W9) :
    Code.wp Tryz.prog ck30 Q ({ tmps := (u0 :: Value.slice pp P cp :: u2 :: u3 :: u4 :: u5 :: u6 :: u7 :: u8 :: u9 :: u10 :: u11 :: Value.int .i64 (m : Int) :: Value.int .i64 (c : Int) :: u14 :: u15 :: Value.int .i64 S :: u17 :: u18 :: u19 :: u20 :: u21 :: u22 :: u23 :: u24 :: u25 :: u26 :: u27 :: u28 :: u29 :: u30 :: u31 :: u32 :: u33 :: u34 :: u35 :: u36 :: u37 :: u38 :: u39 :: u40 :: u41 :: u42 :: u43 :: u44 :: u45 :: u46 :: u47 :: u48 :: u49 :: u50 :: u51 :: u52 :: u53 :: u54 :: u55 :: u56 :: u57 :: u58 :: u59 :: u60 :: u61 :: u62 :: u63 :: u64 :: u65 :: u66 :: u67 :: u68 :: u69 :: u70 :: u71 :: u72 :: u73 :: u74 :: u75 :: u76 :: u77 :: u78 :: u79 :: u80 :: u81 :: u82 :: u83 :: u84 :: u85 :: u86 :: u87 :: u88 :: u89 :: u90 :: u91 :: u92 :: u93 :: u94 :: u95 :: u96 :: u97 :: u98 :: u99 :: u100 :: u101 :: u102 :: u103 :: u104 :: u105 :: u106 :: u107 :: u108 :: u109 :: u110 :: u111 :: u112 :: u113 :: u114 :: u115 :: u116 :: u117 :: u118 :: u119 :: u120 :: u121 :: u122 :: u123 :: u124 :: u125 :: u126 :: u127 :: u128 :: u129 :: u130 :: u131 :: u132 :: u133 :: u134 :: u135 :: u136 :: u137 :: u138 :: u139 :: u140 :: u141 :: u142 :: u143 :: u144 :: u145 :: u146 :: u147 :: u148 :: u149 :: u150 :: Value.bool true :: u152 :: u153 :: u154 :: u155 :: u156 :: u157 :: u158 :: u159 :: u160 :: u161 :: u162 :: u163 :: u164 :: u165 :: u166 :: u167 :: u168 :: u169 :: u170 :: u171 :: u172 :: u173 :: []).toArray, defers := [] } : Act) w := by
  replace hK := Lib.hid hK
  obtain ⟨a1, c1, e1, hrd⟩ := hN
  obtain ⟨rfl, hP, rfl⟩ : pp = a1 ∧ P = rows.length ∧ cp = c1 := by injection e1 with x1 x2 x3; exact ⟨x1, x2, x3⟩
  clear e1
  have hml : m < rows.length := by
    apply Classical.byContradiction
    intro h
    rw [pv_out h] at hp0
    omega
  have zm : (m : Int) < (P : Int) := by omega
  obtain ⟨b, off, rfl, hlt, hall⟩ := hrd.resolve_left (by rintro rfl; simp at hml)
  obtain ⟨pr, cr, hcell, hs⟩ := hall m hml
  have hp : pv rows m c = (rows[m]).getD c 0 := pv_at hml
  rw [hp] at hK hp0
  replace hp := True.intro
  generalize rows[m] = row at *
  obtain ⟨k, hk⟩ : ∃ k, k = row.length := ⟨_, rfl⟩
  rw [← hk] at hcell hs
  have h2 : c < k := by
    apply Classical.byContradiction
    intro h
    rw [List.getD_eq_getElem?_getD, List.getElem?_eq_none (by omega)] at hp0
    simp at hp0
  obtain ⟨-, -, -, hcs⟩ := hs
  have zc : (c : Int) < (k : Int) := by omega
  obtain ⟨b2, off2, rfl, hlt2, hall2⟩ := hcs.resolve_left (by omega)
  have hx := hall2 c h2
  generalize row.getD c 0 = x at *
  have zw : IntKind.i64.wrap (S - min x S) = S - min x S := by rw [IntKind.wrap_i64]; omega
  clear hall hall2 hcs hrd
  replace hk := Lib.hid hk
  replace hP := Lib.hid hP
  conv => arg 2; whnf
  go_wp2_with fail
  exact hK.out _ _ _ _ _ _ _ _ _ _ _ _ rfl
/-- one who may be behind -/
def behC (l : List Du) (now : Int) (rows : List (List Int)) (m c : Nat) : List Du :=
  if 0 < sumD l now m c l.length - payOf rows m c then [⟨m, c, now, sumD l now m c l.length - payOf rows m c⟩] else []
def behR (l : List Du) (now : Int) (rows : List (List Int)) (m k : Nat) : List Du := (List.range k).flatMap fun c => behC l now rows m c
def behM (l : List Du) (now : Int) (rows : List (List Int)) (W k : Nat) : List Du := (List.range k).flatMap fun m => behR l now rows m W
theorem behR_succ (l : List Du) (now : Int) (rows : List (List Int)) (m k : Nat) : behR l now rows m (k + 1) = behR l now rows m k ++ behC l now rows m k := by unfold behR; rw [List.range_succ, List.flatMap_append]; simp
theorem behM_succ (l : List Du) (now : Int) (rows : List (List Int)) (W k : Nat) : behM l now rows W (k + 1) = behM l now rows W k ++ behR l now rows k W := by unfold behM; rw [List.range_succ, List.flatMap_append]; simp
theorem behC_le (l : List Du) (now : Int) (rows : List (List Int)) (m c : Nat) : (behC l now rows m c).length ≤ 1 := by unfold behC; split <;> simp
theorem behR_le (l : List Du) (now : Int) (rows : List (List Int)) (m : Nat) : ∀ k, (behR l now rows m k).length ≤ k
  | 0 => by simp [behR]
  | k + 1 => by rw [behR_succ, List.length_append]; have := behR_le l now rows m k; have := behC_le l now rows m k; omega
theorem behM_le (l : List Du) (now : Int) (rows : List (List Int)) (W : Nat) (hW : W ≤ 41) : ∀ k, (behM l now rows W k).length ≤ 41 * k
  | 0 => by simp [behM]
  | k + 1 => by rw [behM_succ, List.length_append]; have := behM_le l now rows W hW k; have := behR_le l now rows k W; omega
theorem sumD_nonneg {l : List Du} (now : Int) (m c : Nat) (h : ∀ d ∈ l, 1 ≤ d.n) : ∀ k, 0 ≤ sumD l now m c k
  | 0 => by simp [sumD]
  | k + 1 => by
    by_cases hk : k < l.length
    · rw [sumD_succ hk]
      have h1 := sumD_nonneg now m c h k
      have h2 := h _ (List.getElem_mem hk)
      split <;> omega
    · have h1 := sumD_nonneg now m c h k
      unfold sumD at h1 ⊢
      rw [List.take_of_length_le (by omega)] at h1 ⊢
      exact h1
set_option maxHeartbeats 4000000 in
set_option maxRecDepth 100000 in
theorem b4_any {Q : Exit → Act → World → Prop} (pd : Option Addr) (n cd : Nat) (now : Int) (l : List Du) (pp : Option Addr) (P cp : Nat) (rows : List (List Int)) (Wn m : Nat) (y0 : Value) (l0 : List Du) (wB w : World)
    (hD : USeq wB (.slice pd n cd) l) (hn : n = l.length) (hn2 : n ≤ 4096) (hin : ∀ d ∈ l, In64 d.n) (h1n : ∀ d ∈ l, 1 ≤ d.n) (hN : NSeq wB (.slice pp P cp) rows) (hP : rows.length = P) (hP0 : P ≤ 4611686018427387904) (hr : ∀ r ∈ rows, r.length ≤ 4611686018427387904)
    (hW : Wn ≤ 40) (hU : UO wB w y0 l0) (hl0 : l0.length ≤ 3000)
    (u3 u4 u5 u6 u7 u8 u10 u14 u15 u16 u17 u18 u19 u20 u21 u22 u23 u24 u25 u26 u27 u28 u29 u30 u31 u32 u33 u34 u35 u36 u37 u38 u39 u40 u41 u42 u43 u44 u45 u46 u47 u48 u49 u50 u51 u52 u53 u54 u55 u56 u57 u58 u59 u60 u61 u62 u63 u64 u65 u66 u67 u68 u69 u70 u71 u72 u73 u74 u75 u76 u77 u78 u79 u80 u81 u82 u83 u84 u85 u86 u87 u88 u89 u90 u91 u92 u93 u94 u95 u96 u97 u98 u99 u100 u101 u102 u103 u104 u105 u106 u107 u108 u109 u110 u111 u112 u113 u114 u115 u116 u117 u118 u119 u120 u121 u122 u123 u124 u125 u126 u127 u128 u129 u130 u131 u132 u133 u134 u135 u136 u137 u138 u139 u140 u141 u142 u143 u144 u145 u146 u147 u148 u149 u150 u151 u152 u153 u154 u155 u156 u157 u158 u159 u160 u161 u162 u163 u164 u165 u166 u167 u168 u169 u170 u171 u172 u173 : Value)
    (hE : ∀ (v11 v13 v14 v15 v16 v17 v76 v77 v78 v79 v80 v81 v82 v83 v84 v85 v86 v87 v88 v89 v90 v91 v92 v93 v94 v95 v96 v97 v98 v99 v100 v101 v102 v103 v104 v105 v106 v107 v108 v109 v110 v111 v112 v113 v114 v115 v116 v117 v118 v119 v120 v121 v122 v123 v124 v125 v126 v127 v128 v129 v130 v131 v132 v133 v134 v135 v136 v137 v138 v139 v140 v141 v142 v143 v144 v145 v146 v147 v148 v149 v150 v151 v152 v153 v154 v155 v156 v157 v158 v159 v160 v161 v162 v163 v164 v165 v166 v167 v168 v169 v170 v171 v172 : Value) (W9 : World), (∃ c, c < Wn + 1 ∧ ¬ Amt (sumD l now m c l.length)) → Below wB.heap.size wB W9 → Q .ret ({ tmps := (Value.slice pd n cd :: Value.slice pp P cp :: Value.int .i64 now :: u3 :: u4 :: u5 :: Value.slice none 0 0 :: Value.int .i64 3 :: u8 :: Value.int .i64 (Wn : Int) :: u10 :: v11 :: Value.int .i64 (m : Int) :: v13 :: v14 :: v15 :: v16 :: v17 :: u18 :: u19 :: u20 :: u21 :: u22 :: u23 :: u24 :: u25 :: u26 :: u27 :: u28 :: u29 :: u30 :: u31 :: u32 :: u33 :: u34 :: u35 :: u36 :: u37 :: u38 :: u39 :: u40 :: u41 :: u42 :: u43 :: u44 :: u45 :: u46 :: u47 :: u48 :: u49 :: u50 :: u51 :: u52 :: u53 :: u54 :: u55 :: u56 :: u57 :: u58 :: u59 :: u60 :: u61 :: u62 :: u63 :: u64 :: u65 :: u66 :: u67 :: u68 :: u69 :: u70 :: u71 :: u72 :: u73 :: u74 :: u75 :: v76 :: v77 :: v78 :: v79 :: v80 :: v81 :: v82 :: v83 :: v84 :: v85 :: v86 :: v87 :: v88 :: v89 :: v90 :: v91 :: v92 :: v93 :: v94 :: v95 :: v96 :: v97 :: v98 :: v99 :: v100 :: v101 :: v102 :: v103 :: v104 :: v105 :: v106 :: v107 :: v108 :: v109 :: v110 :: v111 :: v112 :: v113 :: v114 :: v115 :: v116 :: v117 :: v118 :: v119 :: v120 :: v121 :: v122 :: v123 :: v124 :: v125 :: v126 :: v127 :: v128 :: v129 :: v130 :: v131 :: v132 :: v133 :: v134 :: v135 :: v136 :: v137 :: v138 :: v139 :: v140 :: v141 :: v142 :: v143 :: v144 :: v145 :: v146 :: v147 :: v148 :: v149 :: v150 :: v151 :: v152 :: v153 :: v154 :: v155 :: v156 :: v157 :: v158 :: v159 :: v160 :: v161 :: v162 :: v163 :: v164 :: v165 :: v166 :: v167 :: v168 :: v169 :: v170 :: v171 :: v172 :: u173 :: []).toArray, defers := [] } : Act) W9)
    (hK : ∀ (v6 v7 v11 v13 v14 v15 v16 v17 v76 v77 v78 v79 v80 v81 v82 v83 v84 v85 v86 v87 v88 v89 v90 v91 v92 v93 v94 v95 v96 v97 v98 v99 v100 v101 v102 v103 v104 v105 v106 v107 v108 v109 v110 v111 v112 v113 v114 v115 v116 v117 v118 v119 v120 v121 v122 v123 v124 v125 v126 v127 v128 v129 v130 v131 v132 v133 v134 v135 v136 v137 v138 v139 v140 v141 v142 v143 v144 v145 v146 v147 v148 v149 v150 v151 v152 v153 v154 v155 v156 v157 v158 v159 v160 v161 v162 v163 v164 v165 v166 v167 v168 v169 v170 v171 v172 : Value)  (W9 : World), (∀ c, c < Wn + 1 → Amt (sumD l now m c l.length)) → UO wB W9 v11 (l0 ++ behR l now rows m (Wn + 1)) → Q .normal ({ tmps := (Value.slice pd n cd :: Value.slice pp P cp :: Value.int .i64 now :: u3 :: u4 :: u5 :: v6 :: v7 :: u8 :: Value.int .i64 (Wn : Int) :: u10 :: v11 :: Value.int .i64 (m : Int) :: v13 :: v14 :: v15 :: v16 :: v17 :: u18 :: u19 :: u20 :: u21 :: u22 :: u23 :: u24 :: u25 :: u26 :: u27 :: u28 :: u29 :: u30 :: u31 :: u32 :: u33 :: u34 :: u35 :: u36 :: u37 :: u38 :: u39 :: u40 :: u41 :: u42 :: u43 :: u44 :: u45 :: u46 :: u47 :: u48 :: u49 :: u50 :: u51 :: u52 :: u53 :: u54 :: u55 :: u56 :: u57 :: u58 :: u59 :: u60 :: u61 :: u62 :: u63 :: u64 :: u65 :: u66 :: u67 :: u68 :: u69 :: u70 :: u71 :: u72 :: u73 :: u74 :: u75 :: v76 :: v77 :: v78 :: v79 :: v80 :: v81 :: v82 :: v83 :: v84 :: v85 :: v86 :: v87 :: v88 :: v89 :: v90 :: v91 :: v92 :: v93 :: v94 :: v95 :: v96 :: v97 :: v98 :: v99 :: v100 :: v101 :: v102 :: v103 :: v104 :: v105 :: v106 :: v107 :: v108 :: v109 :: v110 :: v111 :: v112 :: v113 :: v114 :: v115 :: v116 :: v117 :: v118 :: v119 :: v120 :: v121 :: v122 :: v123 :: v124 :: v125 :: v126 :: v127 :: v128 :: v129 :: v130 :: v131 :: v132 :: v133 :: v134 :: v135 :: v136 :: v137 :: v138 :: v139 :: v140 :: v141 :: v142 :: v143 :: v144 :: v145 :: v146 :: v147 :: v148 :: v149 :: v150 :: v151 :: v152 :: v153 :: v154 :: v155 :: v156 :: v157 :: v158 :: v159 :: v160 :: v161 :: v162 :: v163 :: v164 :: v165 :: v166 :: v167 :: v168 :: v169 :: v170 :: v171 :: v172 :: u173 :: []).toArray, defers := [] } : Act) W9) :
    Code.wp Tryz.prog ck4 Q ({ tmps := (Value.slice pd n cd :: Value.slice pp P cp :: Value.int .i64 now :: u3 :: u4 :: u5 :: u6 :: u7 :: u8 :: Value.int .i64 (Wn : Int) :: u10 :: y0 :: Value.int .i64 (m : Int) :: Value.int .i64 0 :: u14 :: u15 :: u16 :: u17 :: u18 :: u19 :: u20 :: u21 :: u22 :: u23 :: u24 :: u25 :: u26 :: u27 :: u28 :: u29 :: u30 :: u31 :: u32 :: u33 :: u34 :: u35 :: u36 :: u37 :: u38 :: u39 :: u40 :: u41 :: u42 :: u43 :: u44 :: u45 :: u46 :: u47 :: u48 :: u49 :: u50 :: u51 :: u52 :: u53 :: u54 :: u55 :: u56 :: u57 :: u58 :: u59 :: u60 :: u61 :: u62 :: u63 :: u64 :: u65 :: u66 :: u67 :: u68 :: u69 :: u70 :: u71 :: u72 :: u73 :: u74 :: u75 :: u76 :: u77 :: u78 :: u79 :: u80 :: u81 :: u82 :: u83 :: u84 :: u85 :: u86 :: u87 :: u88 :: u89 :: u90 :: u91 :: u92 :: u93 :: u94 :: u95 :: u96 :: u97 :: u98 :: u99 :: u100 :: u101 :: u102 :: u103 :: u104 :: u105 :: u106 :: u107 :: u108 :: u109 :: u110 :: u111 :: u112 :: u113 :: u114 :: u115 :: u116 :: u117 :: u118 :: u119 :: u120 :: u121 :: u122 :: u123 :: u124 :: u125 :: u126 :: u127 :: u128 :: u129 :: u130 :: u131 :: u132 :: u133 :: u134 :: u135 :: u136 :: u137 :: u138 :: u139 :: u140 :: u141 :: u142 :: u143 :: u144 :: u145 :: u146 :: u147 :: u148 :: u149 :: u150 :: u151 :: u152 :: u153 :: u154 :: u155 :: u156 :: u157 :: u158 :: u159 :: u160 :: u161 :: u162 :: u163 :: u164 :: u165 :: u166 :: u167 :: u168 :: u169 :: u170 :: u171 :: u172 :: u173 :: []).toArray, defers := [] } : Act) w := by
  replace hK := Lib.hid hK
  have h0 : Hid (UO wB w y0 (l0 ++ behR l now rows m 0)) := Lib.hid (by rw [show behR l now rows m 0 = [] from rfl, List.append_nil]; exact hU)
  replace hE := Lib.hid hE
  replace hD := Lib.hid hD
  replace hn := Lib.hid hn
  replace hin := Lib.hid hin
  replace hN := Lib.hid hN
  replace hP := Lib.hid hP
  replace hr := Lib.hid hr
  have hnn := Lib.hid fun c => sumD_nonneg now m c h1n l.length
  have hbdB : Hid (∀ bd od, pd = some ⟨bd, od, none⟩ → 0 < n → bd < wB.heap.size) := Lib.hid fun bd od e hpos => by
    obtain ⟨a1, c1, e1, _, hrd⟩ := hD.out
    obtain ⟨rfl, -⟩ : pd = a1 ∧ cd = c1 := by injection e1 with x1 _ x3; exact ⟨x1, x3⟩
    obtain ⟨b, off, e2, hlt, _⟩ := hrd.resolve_left (by rintro rfl; have := hn.out; simp at this; omega)
    rw [e2] at e
    injection e with e
    injection e with e _ _
    omega
  clear hU h1n
  conv => arg 2; whnf
  go_wp2_with fail
  go_loopw [11, 13] (fun u j wr => ∃ c : Nat, c ≤ Wn + 1 ∧ j = .int .i64 (c : Int) ∧ Hid (∀ c', c' < c → Amt (sumD l now m c' l.length)) ∧ Hid (UO wB wr u (l0 ++ behR l now rows m c))) (fun _ j _ => Wn + 1 - (intOf j).toNat)
  case atStart => exact ⟨0, by omega, rfl, Lib.hid (fun c' h => by omega), h0⟩
  case round =>
    obtain ⟨c, hc, rfl, hA, hS⟩ := hrel
    by_cases hcW : c ≤ Wn
    · have zc : (c : Int) ≤ (Wn : Int) := by omega
      have hbl := hS.out.bl
      have hbig := big_zero wr
      obtain ⟨W1, hW1⟩ : ∃ W1, W1 = wr.alloc (.cells #[.bool false, .slice none 0 0] 79) := ⟨_, rfl⟩
      have hbW : Below wr.heap.size wr W1 := by rw [hW1]; exact (Below.refl _ _).alloc (Nat.le_refl _) _
      rw [← hW1] at hbig
      have hbB : Below wB.heap.size wB W1 := hbl.trans (hbW.mono hbl.size)
      have hD1 := Lib.hid (hD.out.kept hbB)
      have hbdr : Hid (0 < n → ∀ bd od, pd = some ⟨bd, od, none⟩ → bd < wr.heap.size) := Lib.hid fun hpos bd od e => Nat.lt_of_lt_of_le (hbdB.out bd od e hpos) hbl.size
      have hW1' : Hid (wr.alloc (.cells #[.bool false, .slice none 0 0] 79) = W1) := Lib.hid hW1.symm
      replace hW1 := True.intro
      replace hbig := Lib.hid hbig
      replace hbB := Lib.hid hbB
      go_upto_block 6 with fail
      rw [hW1'.out]
      refine sumb_any pd n cd now l m c wr.heap.size false none 0 0 W1 hD1.out hn.out hn2 ?_ hbig.out hin.out _ _ _ _ _ _ _ _ _ _ _ _ _ _ _ _ _ _ _ _ _ _ _ _ _ _ _ _ _ _ _ _ _ _ _ _ _ _ _ _ _ _ _ _ _ _ _ _ _ _ _ _ _ _ _ _ _ _ _ _ _ _ _ _ _ _ _ _ _ _ _ _ _ _ _ _ _ _ _ _ _ _ _ _ _ _ _ _ _ _ _ _ _ _ _ _ _ _ _ _ _ _ _ _ _ _ _ _ _ _ _ _ _ _ _ _ _ _ _ _ _ _ _ _ _ _ _ _ _ _ _ _ _ _ _ _ _ _ _ _ _ _ _ _ _ _ _ _ _ _ _ _ _ _ _ _ _ _ _ _ _ _ _ _ _ _ _ _ ?_
      · exact hbdr.out
      intro v15 v82 v83 v84 v85 v86 v87 v88 v89 v90 v91 v92 v93 v94 v95 v96 v97 v98 v99 v100 v101 v102 v103 v104 v105 v106 v107 v108 v109 v110 v111 v112 v113 v114 v115 v116 v117 v118 v119 v120 W9 hPut
      have hb9 : Below wr.heap.size wr W9 := ⟨hPut.kp.os.trans hbW.os, hPut.kp.tape.trans hbW.tape, hPut.kp.output.trans hbW.output, Nat.le_trans hbW.size hPut.kp.size, fun j hj => (hPut.kp.block j (by have := hbW.size; omega) (by omega)).trans (hbW.block j hj)⟩
      obtain ⟨⟨n9, p9, l9, c9, hB9⟩, -⟩ := hPut
      have t0 := hB9.c0
      have t1 := hB9.c1
      have hfit := fit_any _ _ _ W9 hB9.2 (by omega)
      rw [hn.out] at hfit
      have hsucc : l0 ++ behR l now rows m (c + 1) = (l0 ++ behR l now rows m c) ++ behC l now rows m c := by rw [behR_succ, List.append_assoc]
      have hle : (l0 ++ behR l now rows m c).length ≤ 3041 := by rw [List.length_append]; have := behR_le l now rows m c; omega
      unfold behC at hsucc
      have hS9 := hS.out.below hb9
      obtain ⟨T, hT⟩ : ∃ T, T = l0 ++ behR l now rows m c := ⟨_, rfl⟩
      rw [← hT] at hsucc hle hS9
      replace hT := Lib.hid hT
      have hS0 := hnn.out c
      have hNW : Hid (∀ W, Below W9.heap.size W9 W → NSeq W (.slice pp P cp) rows) := Lib.hid fun W hb => ((hN.out.kept hbl).kept hb9).kept hb
      obtain ⟨S, hSd⟩ : ∃ S, S = sumD l now m c l.length := ⟨_, rfl⟩
      rw [← hSd] at hfit hsucc hS0
      replace hSd := Lib.hid hSd
      replace hle := Lib.hid hle
      clear hB9 hbl
      by_cases hAm : Amt S
      · obtain ⟨f1, f2⟩ := fit_yes hAm
        rw [f1, f2] at hfit
        replace hfit := Lib.hid hfit
        have hAm2 := hAm
        unfold Amt at hAm2
        replace hAm := Lib.hid hAm
        clear f1 f2
        have hAn : Hid (∀ c', c' < c + 1 → Amt (sumD l now m c' l.length)) := Lib.hid fun c' hc' => by
          by_cases e : c' = c
          · subst e; rw [← hSd.out]; exact hAm.out
          · exact hA.out c' (by omega)
        replace hsucc := Lib.hid hsucc
        go_upto_region 29 with (go_at_call 31; (with_reducible refine hfit.out.mono ?_); rintro e w5 ⟨rfl, hb5⟩)
        have hN5 := hNW.out w5 hb5
        have hS5 := Lib.hid (hS9.below hb5)
        refine k29_any m c P cp pp rows w5 hN5 hP.out hP0 hr.out _ _ _ _ _ _ _ _ _ _ _ _ _ _ _ _ _ _ _ _ _ _ _ _ _ _ _ _ _ _ _ _ _ _ _ _ _ _ _ _ _ _ _ _ _ _ _ _ _ _ _ _ _ _ _ _ _ _ _ _ _ _ _ _ _ _ _ _ _ _ _ _ _ _ _ _ _ _ _ _ _ _ _ _ _ _ _ _ _ _ _ _ _ _ _ _ _ _ _ _ _ _ _ _ _ _ _ _ _ _ _ _ _ _ _ _ _ _ _ _ _ _ _ _ _ _ _ _ _ _ _ _ _ _ _ _ _ _ _ _ _ _ _ _ _ _ _ _ _ _ _ _ _ _ _ _ _ _ _ _ _ _ _ _ _ _ _ _ _ _ _ ?_
        rintro v129 v130 v131 v132 v133 v134 v135 v136 v137 v138 v139 v140 v141 v142 v143 v144 v145 v146 v147 v148 v149 v150 W8 rfl
        have hpay : payOf rows m c = max 0 (pv rows m c) := rfl
        have hfinish : ∀ (S2 : Int), (0 < S2 ↔ 0 < S - payOf rows m c) → (0 < S2 → S2 = S - payOf rows m c) → (if 0 < S - payOf rows m c then [(⟨m, c, now, S - payOf rows m c⟩ : Du)] else []) = if 0 < S2 then [⟨m, c, now, S2⟩] else [] := fun S2 h1 h2 => by
          by_cases h : 0 < S2
          · rw [if_pos h, if_pos (h1.1 h), ← h2 h]
          · rw [if_neg h, if_neg (fun e => h (h1.2 e))]
        by_cases hpp : 0 < pv rows m c
        · rw [decide_eq_true hpp]
          go_upto_if 151 with fail
          refine k30b_any m c P cp pp rows S w5 hN5 hpp hS0 (by omega) _ _ _ _ _ _ _ _ _ _ _ _ _ _ _ _ _ _ _ _ _ _ _ _ _ _ _ _ _ _ _ _ _ _ _ _ _ _ _ _ _ _ _ _ _ _ _ _ _ _ _ _ _ _ _ _ _ _ _ _ _ _ _ _ _ _ _ _ _ _ _ _ _ _ _ _ _ _ _ _ _ _ _ _ _ _ _ _ _ _ _ _ _ _ _ _ _ _ _ _ _ _ _ _ _ _ _ _ _ _ _ _ _ _ _ _ _ _ _ _ _ _ _ _ _ _ _ _ _ _ _ _ _ _ _ _ _ _ _ _ _ _ _ _ _ _ _ _ _ _ _ _ _ _ _ _ _ _ _ _ _ _ _ _ _ _ _ _ _ ?_
          rintro v152 v153 v154 v155 v156 v157 v158 v159 v160 v161 v162 W7 rfl
          have hs2 := hfinish (S - min (pv rows m c) S) (by omega) (by omega)
          have hq : S - min (pv rows m c) S ≤ 9223372036854775807 := by omega
          generalize S - min (pv rows m c) S = S2 at *
          have hsc := hsucc.out
          rw [hs2] at hsc
          replace hs2 := True.intro
          replace hpay := True.intro
          clear hfinish hN5
          by_cases h2 : 0 < S2
          · have z2 : (0 : Int) < S2 := h2
            rw [if_pos h2] at hsc
            replace hsc := Lib.hid hsc
            have hpre := Lib.hid (hS5.out.pre (.cells (⟨m, c, now, S2⟩ : Du).cs.toArray 62))
            have hbx := Lib.hid (boxU62 (⟨m, c, now, S2⟩ : Du) (heap_alloc_new w5 (.cells (⟨m, c, now, S2⟩ : Du).cs.toArray 62)))
            have h1c := Lib.hid (⟨m, c, now, S2⟩ : Du).cs_one
            have hnx : Hid (∀ (v' : Value) (w' : World), w'.ownsRow 0 62 4 v' (T.length + 1) (cellsU T ++ (⟨m, c, now, S2⟩ : Du).cs) → (w5.alloc (.cells (⟨m, c, now, S2⟩ : Du).cs.toArray 62)).grownBy w' u11.ownBlock → (∀ g', v'.ownBlock = some g' → u11.ownBlock = some g' ∨ w5.heap.size + 1 ≤ g') → UO wB w' v' (T ++ [⟨m, c, now, S2⟩])) := Lib.hid fun v' w' h1 h2 h3 => hS5.out.app h1 h2 h3
            go_wp2_with (at_builtin; refine wpList_app1 42 62 4 32 _ Tryz.underlying42 info62 (by rfl) (by omega) (by omega) rfl _ _ rfl rfl _ _ _ rfl hpre.out ⟨w5.heap.size, 0, none⟩ (⟨m, c, now, S2⟩ : Du).cs rfl rfl hbx.out h1c.out (by have := hle.out; omega) ?_)
            intro v' w' hr' hg' hv'
            go_wp2_with fail
            go_roundw
            case rel => exact ⟨c + 1, by omega, by go_num, hAn, Lib.hid (by rw [hsc.out]; exact hnx.out _ _ hr' hg' hv')⟩
            case measure => simp [intOf]; omega
          · have z2 : ¬ (0 : Int) < S2 := h2
            rw [if_neg h2, List.append_nil] at hsc
            replace hsc := Lib.hid hsc
            go_wp2_with fail
            go_roundw
            case rel => exact ⟨c + 1, by omega, by go_num, hAn, Lib.hid (by rw [hsc.out]; exact hS5.out)⟩
            case measure => simp [intOf]; omega
        · rw [decide_eq_false hpp]
          have hs2 := hfinish S (by omega) (by omega)
          have hsc := hsucc.out
          rw [hs2] at hsc
          replace hs2 := True.intro
          replace hpay := True.intro
          clear hfinish hN5
          by_cases h2 : 0 < S
          · have z2 : (0 : Int) < S := h2
            rw [if_pos h2] at hsc
            replace hsc := Lib.hid hsc
            have hpre := Lib.hid (hS5.out.pre (.cells (⟨m, c, now, S⟩ : Du).cs.toArray 62))
            have hbx := Lib.hid (boxU62 (⟨m, c, now, S⟩ : Du) (heap_alloc_new w5 (.cells (⟨m, c, now, S⟩ : Du).cs.toArray 62)))
            have h1c := Lib.hid (⟨m, c, now, S⟩ : Du).cs_one
            have hnx : Hid (∀ (v' : Value) (w' : World), w'.ownsRow 0 62 4 v' (T.length + 1) (cellsU T ++ (⟨m, c, now, S⟩ : Du).cs) → (w5.alloc (.cells (⟨m, c, now, S⟩ : Du).cs.toArray 62)).grownBy w' u11.ownBlock → (∀ g', v'.ownBlock = some g' → u11.ownBlock = some g' ∨ w5.heap.size + 1 ≤ g') → UO wB w' v' (T ++ [⟨m, c, now, S⟩])) := Lib.hid fun v' w' h1 h2 h3 => hS5.out.app h1 h2 h3
            go_wp2_with (at_builtin; refine wpList_app1 42 62 4 32 _ Tryz.underlying42 info62 (by rfl) (by omega) (by omega) rfl _ _ rfl rfl _ _ _ rfl hpre.out ⟨w5.heap.size, 0, none⟩ (⟨m, c, now, S⟩ : Du).cs rfl rfl hbx.out h1c.out (by have := hle.out; omega) ?_)
            intro v' w' hr' hg' hv'
            go_wp2_with fail
            go_roundw
            case rel => exact ⟨c + 1, by omega, by go_num, hAn, Lib.hid (by rw [hsc.out]; exact hnx.out _ _ hr' hg' hv')⟩
            case measure => simp [intOf]; omega
          · have z2 : ¬ (0 : Int) < S := h2
            rw [if_neg h2, List.append_nil] at hsc
            replace hsc := Lib.hid hsc
            go_wp2_with fail
            go_roundw
            case rel => exact ⟨c + 1, by omega, by go_num, hAn, Lib.hid (by rw [hsc.out]; exact hS5.out)⟩
            case measure => simp [intOf]; omega
      · obtain ⟨f1, f2⟩ := fit_no hAm
        rw [f1, f2] at hfit
        replace hfit := Lib.hid hfit
        have hex : Hid (∃ c, c < Wn + 1 ∧ ¬ Amt (sumD l now m c l.length)) := Lib.hid ⟨c, by omega, by rw [← hSd.out]; exact hAm⟩
        have hb9' := Lib.hid (hS9.bl)
        replace hAm := Lib.hid hAm
        replace hsucc := Lib.hid hsucc
        clear f1 f2
        go_wp2_with (go_at_call 31; (with_reducible refine hfit.out.mono ?_); rintro e w5 ⟨rfl, hb5⟩; replace hb5 := Lib.hid hb5)
        exact hE.out _ _ _ _ _ _ _ _ _ _ _ _ _ _ _ _ _ _ _ _ _ _ _ _ _ _ _ _ _ _ _ _ _ _ _ _ _ _ _ _ _ _ _ _ _ _ _ _ _ _ _ _ _ _ _ _ _ _ _ _ _ _ _ _ _ _ _ _ _ _ _ _ _ _ _ _ _ _ _ _ _ _ _ _ _ _ _ _ _ _ _ _ _ _ _ _ _ _ _ _ _ _ _ _ hex.out (hb9'.out.trans (hb5.out.mono hb9'.out.size))
    · obtain rfl : c = Wn + 1 := by omega
      have zk : ¬ ((Wn + 1 : Nat) : Int) ≤ (Wn : Int) := by omega
      go_wp2_with fail
      exact hK.out _ _ _ _ _ _ _ _ _ _ _ _ _ _ _ _ _ _ _ _ _ _ _ _ _ _ _ _ _ _ _ _ _ _ _ _ _ _ _ _ _ _ _ _ _ _ _ _ _ _ _ _ _ _ _ _ _ _ _ _ _ _ _ _ _ _ _ _ _ _ _ _ _ _ _ _ _ _ _ _ _ _ _ _ _ _ _ _ _ _ _ _ _ _ _ _ _ _ _ _ _ _ _ _ _ _ hA.out hS.out
end Go.Proofs.YthocnlalahknjaaGreat.Dd
