/- Parts of the reference's Behind. -/
import Derived.Test.YthocnlalahknjaaGreatSA
import Derived.Test.YthocnlalahknjaaGreatQNcd
namespace Go.Proofs.YthocnlalahknjaaGreat.Dd
open Go.RowKit Go.Maps
set_option linter.unusedVariables false
noncomputable def ck0 : Code := cpath [1, 1, 1, 1, 0, 1] (cbody Tryz.f16.body)
noncomputable def ck2 : Code := cpath [1, 1, 1, 1, 1, 1, 0, 1] (cbody Tryz.f16.body)
noncomputable def ck4 : Code := cpath [1, 1, 1, 1, 1, 1, 0, 1, 2, 3, 1, 0, 2, 1] (cbody Tryz.f16.body)
noncomputable def ck6 : Code := cpath [1, 1, 1, 1, 1, 1, 0, 1, 2, 3, 1, 0, 2, 1, 2, 3, 1, 0, 2, 1, 0, 1] (cbody Tryz.f16.body)
noncomputable def ck25 : Code := cpath [1, 1, 1, 1, 1, 1, 0, 1, 2, 3, 1, 0, 2, 1, 2, 3, 1, 0, 2, 1, 0, 1, 2, 3, 1, 0, 2, 1] (cbody Tryz.f16.body)
noncomputable def ck29 : Code := cpath [1, 1, 1, 1, 1, 1, 0, 1, 2, 3, 1, 0, 2, 1, 2, 3, 1, 0, 2, 1, 1, 1, 1, 0, 0] (cbody Tryz.f16.body)
noncomputable def ck30 : Code := cpath [1, 1, 1, 1, 1, 1, 0, 1, 2, 3, 1, 0, 2, 1, 2, 3, 1, 0, 2, 1, 1, 1, 1, 0, 1] (cbody Tryz.f16.body)
def mostL (l : List Du) (now : Int) (k : Nat) : Int := (l.take k).foldl (fun a d => if d.t ≤ now then max a d.m else a) 0
def wideL (l : List Du) (now : Int) (k : Nat) : Int := (l.take k).foldl (fun a d => if d.t ≤ now then max a d.c else a) 0
theorem mostL_succ {l : List Du} {now : Int} {k : Nat} (h : k < l.length) : mostL l now (k + 1) = if l[k].t ≤ now then max (mostL l now k) l[k].m else mostL l now k := by
  unfold mostL; rw [List.take_succ_eq_append_getElem h, List.foldl_append]; rfl
theorem wideL_succ {l : List Du} {now : Int} {k : Nat} (h : k < l.length) : wideL l now (k + 1) = if l[k].t ≤ now then max (wideL l now k) l[k].c else wideL l now k := by
  unfold wideL; rw [List.take_succ_eq_append_getElem h, List.foldl_append]; rfl
/-- a sum of an account's dues -/
def sumD (l : List Du) (now : Int) (m c k : Nat) : Int := (l.take k).foldl (fun N d => if d.t ≤ now ∧ d.m = (m : Int) ∧ d.c = (c : Int) then N + d.n else N) 0
theorem sumD_succ {l : List Du} {now : Int} {m c k : Nat} (h : k < l.length) : sumD l now m c (k + 1) = if l[k].t ≤ now ∧ l[k].m = (m : Int) ∧ l[k].c = (c : Int) then sumD l now m c k + l[k].n else sumD l now m c k := by
  unfold sumD; rw [List.take_succ_eq_append_getElem h, List.foldl_append]; rfl
set_option maxHeartbeats 4000000 in
set_option maxRecDepth 100000 in
theorem b0_any {Q : Exit → Act → World → Prop} (pd : Option Addr) (n cd : Nat) (now : Int) (l : List Du) (w : World)
    (hU : USeq w (.slice pd n cd) l) (hn : n = l.length) (hn2 : n ≤ 4096)
    (u1 u3 u4 u5 u6 u7 u11 u12 u13 u14 u15 u16 u17 u18 u19 u20 u21 u22 u23 u24 u25 u26 u27 u28 u29 u30 u31 u32 u33 u34 u35 u36 u37 u38 u39 u40 u41 u42 u43 u44 u45 u46 u47 u48 u49 u50 u51 u52 u53 u54 u55 u56 u57 u58 u59 u60 u61 u62 u63 u64 u65 u66 u67 u68 u69 u70 u71 u72 u73 u74 u75 u76 u77 u78 u79 u80 u81 u82 u83 u84 u85 u86 u87 u88 u89 u90 u91 u92 u93 u94 u95 u96 u97 u98 u99 u100 u101 u102 u103 u104 u105 u106 u107 u108 u109 u110 u111 u112 u113 u114 u115 u116 u117 u118 u119 u120 u121 u122 u123 u124 u125 u126 u127 u128 u129 u130 u131 u132 u133 u134 u135 u136 u137 u138 u139 u140 u141 u142 u143 u144 u145 u146 u147 u148 u149 u150 u151 u152 u153 u154 u155 u156 u157 u158 u159 u160 u161 u162 u163 u164 u165 u166 u167 u168 u169 u170 u171 u172 u173 : Value)
    (hE : ∀ (v8 v9 v10 v21 v22 v23 v24 v25 v26 v27 v28 v29 v30 v31 v32 v33 v34 v35 v36 v37 v38 v39 v40 v41 v42 v43 v44 v45 v46 v47 v48 v49 v50 v51 v52 v53 v54 v55 v56 v57 v58 v59 v60 v61 v62 v63 v64 v65 v66 v67 v68 v69 : Value) (W9 : World), l.any Du.wrong = true → w = W9 → Q .ret ({ tmps := (Value.slice pd n cd :: u1 :: Value.int .i64 now :: u3 :: u4 :: u5 :: Value.slice none 0 0 :: Value.int .i64 1 :: v8 :: v9 :: v10 :: u11 :: u12 :: u13 :: u14 :: u15 :: u16 :: u17 :: u18 :: u19 :: u20 :: v21 :: v22 :: v23 :: v24 :: v25 :: v26 :: v27 :: v28 :: v29 :: v30 :: v31 :: v32 :: v33 :: v34 :: v35 :: v36 :: v37 :: v38 :: v39 :: v40 :: v41 :: v42 :: v43 :: v44 :: v45 :: v46 :: v47 :: v48 :: v49 :: v50 :: v51 :: v52 :: v53 :: v54 :: v55 :: v56 :: v57 :: v58 :: v59 :: v60 :: v61 :: v62 :: v63 :: v64 :: v65 :: v66 :: v67 :: v68 :: v69 :: u70 :: u71 :: u72 :: u73 :: u74 :: u75 :: u76 :: u77 :: u78 :: u79 :: u80 :: u81 :: u82 :: u83 :: u84 :: u85 :: u86 :: u87 :: u88 :: u89 :: u90 :: u91 :: u92 :: u93 :: u94 :: u95 :: u96 :: u97 :: u98 :: u99 :: u100 :: u101 :: u102 :: u103 :: u104 :: u105 :: u106 :: u107 :: u108 :: u109 :: u110 :: u111 :: u112 :: u113 :: u114 :: u115 :: u116 :: u117 :: u118 :: u119 :: u120 :: u121 :: u122 :: u123 :: u124 :: u125 :: u126 :: u127 :: u128 :: u129 :: u130 :: u131 :: u132 :: u133 :: u134 :: u135 :: u136 :: u137 :: u138 :: u139 :: u140 :: u141 :: u142 :: u143 :: u144 :: u145 :: u146 :: u147 :: u148 :: u149 :: u150 :: u151 :: u152 :: u153 :: u154 :: u155 :: u156 :: u157 :: u158 :: u159 :: u160 :: u161 :: u162 :: u163 :: u164 :: u165 :: u166 :: u167 :: u168 :: u169 :: u170 :: u171 :: u172 :: u173 :: []).toArray, defers := [] } : Act) W9)
    (hK : ∀ (v6 v7 v10 v21 v22 v23 v24 v25 v26 v27 v28 v29 v30 v31 v32 v33 v34 v35 v36 v37 v38 v39 v40 v41 v42 v43 v44 v45 v46 v47 v48 v49 v50 v51 v52 v53 v54 v55 v56 v57 v58 v59 v60 v61 v62 v63 v64 v65 v66 v67 v68 v69 : Value)  (W9 : World), l.any Du.wrong = false → w = W9 → Q .normal ({ tmps := (Value.slice pd n cd :: u1 :: Value.int .i64 now :: u3 :: u4 :: u5 :: v6 :: v7 :: Value.int .i64 (mostL l now n) :: Value.int .i64 (wideL l now n) :: v10 :: u11 :: u12 :: u13 :: u14 :: u15 :: u16 :: u17 :: u18 :: u19 :: u20 :: v21 :: v22 :: v23 :: v24 :: v25 :: v26 :: v27 :: v28 :: v29 :: v30 :: v31 :: v32 :: v33 :: v34 :: v35 :: v36 :: v37 :: v38 :: v39 :: v40 :: v41 :: v42 :: v43 :: v44 :: v45 :: v46 :: v47 :: v48 :: v49 :: v50 :: v51 :: v52 :: v53 :: v54 :: v55 :: v56 :: v57 :: v58 :: v59 :: v60 :: v61 :: v62 :: v63 :: v64 :: v65 :: v66 :: v67 :: v68 :: v69 :: u70 :: u71 :: u72 :: u73 :: u74 :: u75 :: u76 :: u77 :: u78 :: u79 :: u80 :: u81 :: u82 :: u83 :: u84 :: u85 :: u86 :: u87 :: u88 :: u89 :: u90 :: u91 :: u92 :: u93 :: u94 :: u95 :: u96 :: u97 :: u98 :: u99 :: u100 :: u101 :: u102 :: u103 :: u104 :: u105 :: u106 :: u107 :: u108 :: u109 :: u110 :: u111 :: u112 :: u113 :: u114 :: u115 :: u116 :: u117 :: u118 :: u119 :: u120 :: u121 :: u122 :: u123 :: u124 :: u125 :: u126 :: u127 :: u128 :: u129 :: u130 :: u131 :: u132 :: u133 :: u134 :: u135 :: u136 :: u137 :: u138 :: u139 :: u140 :: u141 :: u142 :: u143 :: u144 :: u145 :: u146 :: u147 :: u148 :: u149 :: u150 :: u151 :: u152 :: u153 :: u154 :: u155 :: u156 :: u157 :: u158 :: u159 :: u160 :: u161 :: u162 :: u163 :: u164 :: u165 :: u166 :: u167 :: u168 :: u169 :: u170 :: u171 :: u172 :: u173 :: []).toArray, defers := [] } : Act) W9) :
    Code.wp Tryz.prog ck0 Q ({ tmps := (Value.slice pd n cd :: u1 :: Value.int .i64 now :: u3 :: u4 :: u5 :: u6 :: u7 :: Value.int .i64 0 :: Value.int .i64 0 :: Value.int .i64 0 :: u11 :: u12 :: u13 :: u14 :: u15 :: u16 :: u17 :: u18 :: u19 :: u20 :: u21 :: u22 :: u23 :: u24 :: u25 :: u26 :: u27 :: u28 :: u29 :: u30 :: u31 :: u32 :: u33 :: u34 :: u35 :: u36 :: u37 :: u38 :: u39 :: u40 :: u41 :: u42 :: u43 :: u44 :: u45 :: u46 :: u47 :: u48 :: u49 :: u50 :: u51 :: u52 :: u53 :: u54 :: u55 :: u56 :: u57 :: u58 :: u59 :: u60 :: u61 :: u62 :: u63 :: u64 :: u65 :: u66 :: u67 :: u68 :: u69 :: u70 :: u71 :: u72 :: u73 :: u74 :: u75 :: u76 :: u77 :: u78 :: u79 :: u80 :: u81 :: u82 :: u83 :: u84 :: u85 :: u86 :: u87 :: u88 :: u89 :: u90 :: u91 :: u92 :: u93 :: u94 :: u95 :: u96 :: u97 :: u98 :: u99 :: u100 :: u101 :: u102 :: u103 :: u104 :: u105 :: u106 :: u107 :: u108 :: u109 :: u110 :: u111 :: u112 :: u113 :: u114 :: u115 :: u116 :: u117 :: u118 :: u119 :: u120 :: u121 :: u122 :: u123 :: u124 :: u125 :: u126 :: u127 :: u128 :: u129 :: u130 :: u131 :: u132 :: u133 :: u134 :: u135 :: u136 :: u137 :: u138 :: u139 :: u140 :: u141 :: u142 :: u143 :: u144 :: u145 :: u146 :: u147 :: u148 :: u149 :: u150 :: u151 :: u152 :: u153 :: u154 :: u155 :: u156 :: u157 :: u158 :: u159 :: u160 :: u161 :: u162 :: u163 :: u164 :: u165 :: u166 :: u167 :: u168 :: u169 :: u170 :: u171 :: u172 :: u173 :: []).toArray, defers := [] } : Act) w := by
  replace hK := Lib.hid hK
  obtain ⟨a1, cap1, e1, hcap, hrd⟩ := hU
  obtain ⟨rfl, rfl⟩ : pd = a1 ∧ cd = cap1 := by injection e1 with x1 _ x3; exact ⟨x1, x3⟩
  replace hrd := Lib.hid hrd
  replace hn := Lib.hid hn
  replace hE := Lib.hid hE
  clear e1 hcap
  conv => arg 2; whnf
  go_wp2_with fail
  go_loopw [8, 9, 10] (fun a b i wr => ∃ k : Nat, k ≤ n ∧ i = .int .i64 (k : Int) ∧ Hid (a = .int .i64 (mostL l now k) ∧ b = .int .i64 (wideL l now k) ∧ ∀ j (hj : j < l.length), j < k → (l[j]).wrong = false) ∧ wr = w) (fun _ _ i _ => n - (intOf i).toNat)
  case atStart => exact ⟨0, by omega, rfl, Lib.hid ⟨rfl, rfl, fun j _ h => by omega⟩, rfl⟩
  case round =>
    obtain ⟨k, hk, rfl, hS, rfl⟩ := hrel
    obtain ⟨rfl, rfl, hA⟩ := hS.out
    by_cases hkn : k < n
    · have hkl : k < l.length := by have := hn.out; omega
      have zk : (k : Int) < (n : Int) := by omega
      obtain ⟨b, off, rfl, hlt, hall⟩ := hrd.out.resolve_left (by rintro rfl; simp at hkl)
      have e0 := hall k hkl 0 _ rfl
      have e1 := hall k hkl 1 _ rfl
      have e2 := hall k hkl 2 _ rfl
      have e3 := hall k hkl 3 _ rfl
      rw [Nat.add_zero] at e0
      have s1 := mostL_succ (now := now) hkl
      have s2 := wideL_succ (now := now) hkl
      have hnx : Hid ((l[k]).wrong = false → ∀ j (hj : j < l.length), j < k + 1 → (l[j]).wrong = false) := Lib.hid fun hh j hj hjk => by
        by_cases e : j = k
        · subst e; exact hh
        · exact hA j hj (by omega)
      have hex : Hid ((l[k]).wrong = true → l.any Du.wrong = true) := Lib.hid fun h => List.any_eq_true.2 ⟨_, List.getElem_mem hkl, h⟩
      generalize mostL l now k = a at *
      generalize wideL l now k = b' at *
      clear hall
      generalize l[k] = x at *
      obtain ⟨y1, y2, y3, y4⟩ := x
      unfold Du.wrong at hnx hex
      dsimp only at e0 e1 e2 e3 s1 s2 hnx hex
      replace hA := True.intro
      replace hS := True.intro
      by_cases c1 : y1 < 0
      · have hx := Lib.hid (hex.out (by rw [decide_eq_true c1]; rfl))
        replace s1 := Lib.hid s1
        replace s2 := Lib.hid s2
        go_wp2_with fail
        exact hE.out _ _ _ _ _ _ _ _ _ _ _ _ _ _ _ _ _ _ _ _ _ _ _ _ _ _ _ _ _ _ _ _ _ _ _ _ _ _ _ _ _ _ _ _ _ _ _ _ _ _ _ _ _ hx.out rfl
      · by_cases c2 : y2 < 0
        · have hx := Lib.hid (hex.out (by rw [decide_eq_true c2]; simp))
          replace s1 := Lib.hid s1
          replace s2 := Lib.hid s2
          go_wp2_with fail
          exact hE.out _ _ _ _ _ _ _ _ _ _ _ _ _ _ _ _ _ _ _ _ _ _ _ _ _ _ _ _ _ _ _ _ _ _ _ _ _ _ _ _ _ _ _ _ _ _ _ _ _ _ _ _ _ hx.out rfl
        · by_cases c3 : y4 < 1
          · have hx := Lib.hid (hex.out (by rw [decide_eq_true c3]; simp))
            replace s1 := Lib.hid s1
            replace s2 := Lib.hid s2
            go_wp2_with fail
            exact hE.out _ _ _ _ _ _ _ _ _ _ _ _ _ _ _ _ _ _ _ _ _ _ _ _ _ _ _ _ _ _ _ _ _ _ _ _ _ _ _ _ _ _ _ _ _ _ _ _ _ _ _ _ _ hx.out rfl
          · have hx := Lib.hid (hnx.out (by rw [decide_eq_false c1, decide_eq_false c2, decide_eq_false c3]; rfl))
            by_cases ht : y3 ≤ now
            · rw [if_pos ht] at s1 s2
              replace s1 := Lib.hid s1
              replace s2 := Lib.hid s2
              go_wp2_with fail
              go_roundw
              case rel => exact ⟨k + 1, by omega, by go_num, Lib.hid ⟨by rw [s1.out], by rw [s2.out], hx.out⟩, by trivial⟩
              case measure => simp [intOf]; omega
            · rw [if_neg ht] at s1 s2
              replace s1 := Lib.hid s1
              replace s2 := Lib.hid s2
              go_wp2_with fail
              go_roundw
              case rel => exact ⟨k + 1, by omega, by go_num, Lib.hid ⟨by rw [s1.out], by rw [s2.out], hx.out⟩, by trivial⟩
              case measure => simp [intOf]; omega
    · obtain rfl : k = n := by omega
      have zk : ¬ (k : Int) < (k : Int) := by omega
      have hx : Hid (l.any Du.wrong = false) := Lib.hid (by
        rw [List.any_eq_false]
        intro d hd
        obtain ⟨j, hj, rfl⟩ := List.mem_iff_getElem.1 hd
        rw [hA j hj (by have := hn.out; omega)]; decide)
      replace hA := True.intro
      replace hS := True.intro
      go_wp2_with fail
      exact hK.out _ _ _ _ _ _ _ _ _ _ _ _ _ _ _ _ _ _ _ _ _ _ _ _ _ _ _ _ _ _ _ _ _ _ _ _ _ _ _ _ _ _ _ _ _ _ _ _ _ _ _ _ _ hx.out rfl
set_option maxHeartbeats 4000000 in
set_option maxRecDepth 100000 in
theorem k25_any {Q : Exit → Act → World → Prop} (b bd od n cd k L : Nat) (N x : Int) (n0 : Bool) (p0 : Option Addr) (l0 c0 : Nat) (w : World)
    (h : BigAt w b L N n0 p0 l0 c0) (hL5 : 5 ≤ L) (hL : L ≤ 90000) (hx : w.cell? ⟨bd, od + k * 4 + 3, none⟩ = some (.int .i64 x)) (hk : k < n) (hx0 : -9223372036854775808 ≤ x) (hx1 : x ≤ 9223372036854775807)
    (u1 u2 u3 u4 u5 u6 u7 u8 u9 u10 u11 u12 u13 u16 u17 u18 u19 u20 u21 u22 u23 u24 u25 u26 u27 u28 u29 u30 u31 u32 u33 u34 u35 u36 u37 u38 u39 u40 u41 u42 u43 u44 u45 u46 u47 u48 u49 u50 u51 u52 u53 u54 u55 u56 u57 u58 u59 u60 u61 u62 u63 u64 u65 u66 u67 u68 u69 u70 u71 u72 u73 u74 u75 u76 u77 u78 u79 u80 u81 u82 u83 u84 u85 u86 u87 u88 u89 u90 u91 u92 u93 u94 u95 u96 u97 u98 u99 u100 u101 u102 u103 u104 u105 u106 u107 u108 u109 u110 u111 u113 u114 u115 u116 u117 u118 u119 u120 u121 u122 u123 u124 u125 u126 u127 u128 u129 u130 u131 u132 u133 u134 u135 u136 u137 u138 u139 u140 u141 u142 u143 u144 u145 u146 u147 u148 u149 u150 u151 u152 u153 u154 u155 u156 u157 u158 u159 u160 u161 u162 u163 u164 u165 u166 u167 u168 u169 u170 u171 u172 u173 : Value)
    (hK : ∀ (v113 v114 v115 v116 v117 v118 v119 v120 : Value)  (W9 : World), Put w W9 b (L + 1) (N + x) → Q .normal ({ tmps := (Value.slice (some ⟨bd, od, none⟩) n cd :: u1 :: u2 :: u3 :: u4 :: u5 :: u6 :: u7 :: u8 :: u9 :: u10 :: u11 :: u12 :: u13 :: Value.pointer (some ⟨b, 0, none⟩) :: Value.int .i64 (k : Int) :: u16 :: u17 :: u18 :: u19 :: u20 :: u21 :: u22 :: u23 :: u24 :: u25 :: u26 :: u27 :: u28 :: u29 :: u30 :: u31 :: u32 :: u33 :: u34 :: u35 :: u36 :: u37 :: u38 :: u39 :: u40 :: u41 :: u42 :: u43 :: u44 :: u45 :: u46 :: u47 :: u48 :: u49 :: u50 :: u51 :: u52 :: u53 :: u54 :: u55 :: u56 :: u57 :: u58 :: u59 :: u60 :: u61 :: u62 :: u63 :: u64 :: u65 :: u66 :: u67 :: u68 :: u69 :: u70 :: u71 :: u72 :: u73 :: u74 :: u75 :: u76 :: u77 :: u78 :: u79 :: u80 :: u81 :: u82 :: u83 :: u84 :: u85 :: u86 :: u87 :: u88 :: u89 :: u90 :: u91 :: u92 :: u93 :: u94 :: u95 :: u96 :: u97 :: u98 :: u99 :: u100 :: u101 :: u102 :: u103 :: u104 :: u105 :: u106 :: u107 :: u108 :: u109 :: u110 :: u111 :: Value.bool true :: v113 :: v114 :: v115 :: v116 :: v117 :: v118 :: v119 :: v120 :: u121 :: u122 :: u123 :: u124 :: u125 :: u126 :: u127 :: u128 :: u129 :: u130 :: u131 :: u132 :: u133 :: u134 :: u135 :: u136 :: u137 :: u138 :: u139 :: u140 :: u141 :: u142 :: u143 :: u144 :: u145 :: u146 :: u147 :: u148 :: u149 :: u150 :: u151 :: u152 :: u153 :: u154 :: u155 :: u156 :: u157 :: u158 :: u159 :: u160 :: u161 :: u162 :: u163 :: u164 :: u165 :: u166 :: u167 :: u168 :: u169 :: u170 :: u171 :: u172 :: u173 :: []).toArray, defers := [] } : Act) W9) :
    Code.wp Tryz.prog ck25 Q ({ tmps := (Value.slice (some ⟨bd, od, none⟩) n cd :: u1 :: u2 :: u3 :: u4 :: u5 :: u6 :: u7 :: u8 :: u9 :: u10 :: u11 :: u12 :: u13 :: Value.pointer (some ⟨b, 0, none⟩) :: Value.int .i64 (k : Int) :: u16 :: u17 :: u18 :: u19 :: u20 :: u21 :: u22 :: u23 :: u24 :: u25 :: u26 :: u27 :: u28 :: u29 :: u30 :: u31 :: u32 :: u33 :: u34 :: u35 :: u36 :: u37 :: u38 :: u39 :: u40 :: u41 :: u42 :: u43 :: u44 :: u45 :: u46 :: u47 :: u48 :: u49 :: u50 :: u51 :: u52 :: u53 :: u54 :: u55 :: u56 :: u57 :: u58 :: u59 :: u60 :: u61 :: u62 :: u63 :: u64 :: u65 :: u66 :: u67 :: u68 :: u69 :: u70 :: u71 :: u72 :: u73 :: u74 :: u75 :: u76 :: u77 :: u78 :: u79 :: u80 :: u81 :: u82 :: u83 :: u84 :: u85 :: u86 :: u87 :: u88 :: u89 :: u90 :: u91 :: u92 :: u93 :: u94 :: u95 :: u96 :: u97 :: u98 :: u99 :: u100 :: u101 :: u102 :: u103 :: u104 :: u105 :: u106 :: u107 :: u108 :: u109 :: u110 :: u111 :: Value.bool true :: u113 :: u114 :: u115 :: u116 :: u117 :: u118 :: u119 :: u120 :: u121 :: u122 :: u123 :: u124 :: u125 :: u126 :: u127 :: u128 :: u129 :: u130 :: u131 :: u132 :: u133 :: u134 :: u135 :: u136 :: u137 :: u138 :: u139 :: u140 :: u141 :: u142 :: u143 :: u144 :: u145 :: u146 :: u147 :: u148 :: u149 :: u150 :: u151 :: u152 :: u153 :: u154 :: u155 :: u156 :: u157 :: u158 :: u159 :: u160 :: u161 :: u162 :: u163 :: u164 :: u165 :: u166 :: u167 :: u168 :: u169 :: u170 :: u171 :: u172 :: u173 :: []).toArray, defers := [] } : Act) w := by
  replace hK := Lib.hid hK
  have t0 := h.c0
  have t1 := h.c1
  have r0 := h.f (i := 0)
  have r1 := h.f (i := 1)
  have zk : (k : Int) < (n : Int) := by omega
  have hA := Lib.hid h
  refine wp_norm (R := fun a W9 => ∃ v113 v114 v115 v116 v117 v118 v119 v120 : Value, a = ({ tmps := (Value.slice (some ⟨bd, od, none⟩) n cd :: u1 :: u2 :: u3 :: u4 :: u5 :: u6 :: u7 :: u8 :: u9 :: u10 :: u11 :: u12 :: u13 :: Value.pointer (some ⟨b, 0, none⟩) :: Value.int .i64 (k : Int) :: u16 :: u17 :: u18 :: u19 :: u20 :: u21 :: u22 :: u23 :: u24 :: u25 :: u26 :: u27 :: u28 :: u29 :: u30 :: u31 :: u32 :: u33 :: u34 :: u35 :: u36 :: u37 :: u38 :: u39 :: u40 :: u41 :: u42 :: u43 :: u44 :: u45 :: u46 :: u47 :: u48 :: u49 :: u50 :: u51 :: u52 :: u53 :: u54 :: u55 :: u56 :: u57 :: u58 :: u59 :: u60 :: u61 :: u62 :: u63 :: u64 :: u65 :: u66 :: u67 :: u68 :: u69 :: u70 :: u71 :: u72 :: u73 :: u74 :: u75 :: u76 :: u77 :: u78 :: u79 :: u80 :: u81 :: u82 :: u83 :: u84 :: u85 :: u86 :: u87 :: u88 :: u89 :: u90 :: u91 :: u92 :: u93 :: u94 :: u95 :: u96 :: u97 :: u98 :: u99 :: u100 :: u101 :: u102 :: u103 :: u104 :: u105 :: u106 :: u107 :: u108 :: u109 :: u110 :: u111 :: Value.bool true :: v113 :: v114 :: v115 :: v116 :: v117 :: v118 :: v119 :: v120 :: u121 :: u122 :: u123 :: u124 :: u125 :: u126 :: u127 :: u128 :: u129 :: u130 :: u131 :: u132 :: u133 :: u134 :: u135 :: u136 :: u137 :: u138 :: u139 :: u140 :: u141 :: u142 :: u143 :: u144 :: u145 :: u146 :: u147 :: u148 :: u149 :: u150 :: u151 :: u152 :: u153 :: u154 :: u155 :: u156 :: u157 :: u158 :: u159 :: u160 :: u161 :: u162 :: u163 :: u164 :: u165 :: u166 :: u167 :: u168 :: u169 :: u170 :: u171 :: u172 :: u173 :: []).toArray, defers := [] } : Act) ∧ Put w W9 b (L + 1) (N + x)) ?_ (by rintro a W9 ⟨v113, v114, v115, v116, v117, v118, v119, v120, rfl, hP⟩; exact hK.out v113 v114 v115 v116 v117 v118 v119 v120 W9 hP)
  clear h hK
  conv => arg 2; whnf
  go_wp2_with fail
  try go_upto_region 25 with fail
  have hof := Lib.hid fun W => of_any x W (by omega) (by omega)
  go_region_with (first
    | (go_at_call 30; (with_reducible refine (hof.out _).mono ?_); rintro e w1 ⟨v1, rfl, hv1, hb1⟩; have hA1 := (big_drew hA.out).kept hb1; have u0 := hA1.c0; have u1 := hA1.c1; have hB1 : Hid (Below w.heap.size w w1) := Lib.hid ⟨hb1.os, hb1.tape, hb1.output, hb1.size, hb1.block⟩; replace hA1 := Lib.hid hA1; replace hv1 := Lib.hid hv1; clear hb1)
    | (go_at_call 29; (with_reducible refine (addB_any _ _ L N x _ ?_ ?_ ?_).mono ?_); exact hA1.out.2; exact hv1.out.wide hL5; omega; rintro e w2 ⟨v2, rfl, hv2, hb2⟩; obtain ⟨n2, q2, l2, c2, d2, rfl, hv3⟩ := hv2; have hA2 := hA1.out.kept hb2; have u2 := hA2.c0; have u3 := hA2.c1; have u4 := hA2.f (i := 0); have u5 := hA2.f (i := 1)
       have hB2 := Lib.hid (hB1.out.trans (hb2.mono hB1.out.size)); replace hA2 := Lib.hid hA2; have hv4 : Hid (IsB w2 (.agg #[.bool n2, .slice q2 l2 c2]) (L + 1) (N + x)) := ⟨n2, q2, l2, c2, d2, rfl, hv3⟩; clear hv3 hb2))
  all_goals
    clear t0 t1 r0 r1 u0 u1 u2 u3 u4 u5
    go_wp2_with fail
    exact ⟨_, _, _, _, _, _, _, _, rfl, Put.of hA2.out.1 hv4.out hB2.out⟩
set_option maxHeartbeats 4000000 in
set_option maxRecDepth 100000 in
theorem sumb_any {Q : Exit → Act → World → Prop} (pd : Option Addr) (n cd : Nat) (now : Int) (l : List Du) (m c b : Nat) (n0 : Bool) (p0 : Option Addr) (l0 c0 : Nat) (w : World)
    (hU : USeq w (.slice pd n cd) l) (hn : n = l.length) (hn2 : n ≤ 4096) (hbd : 0 < n → ∀ bd od, pd = some ⟨bd, od, none⟩ → bd < b) (hA : BigAt w b 5 0 n0 p0 l0 c0) (hin : ∀ d ∈ l, In64 d.n)
    (u1 u3 u4 u5 u6 u7 u8 u9 u10 u11 u16 u17 u18 u19 u20 u21 u22 u23 u24 u25 u26 u27 u28 u29 u30 u31 u32 u33 u34 u35 u36 u37 u38 u39 u40 u41 u42 u43 u44 u45 u46 u47 u48 u49 u50 u51 u52 u53 u54 u55 u56 u57 u58 u59 u60 u61 u62 u63 u64 u65 u66 u67 u68 u69 u70 u71 u72 u73 u74 u75 u76 u77 u78 u79 u80 u81 u82 u83 u84 u85 u86 u87 u88 u89 u90 u91 u92 u93 u94 u95 u96 u97 u98 u99 u100 u101 u102 u103 u104 u105 u106 u107 u108 u109 u110 u111 u112 u113 u114 u115 u116 u117 u118 u119 u120 u121 u122 u123 u124 u125 u126 u127 u128 u129 u130 u131 u132 u133 u134 u135 u136 u137 u138 u139 u140 u141 u142 u143 u144 u145 u146 u147 u148 u149 u150 u151 u152 u153 u154 u155 u156 u157 u158 u159 u160 u161 u162 u163 u164 u165 u166 u167 u168 u169 u170 u171 u172 u173 : Value)
    (hK : ∀ (v15 v82 v83 v84 v85 v86 v87 v88 v89 v90 v91 v92 v93 v94 v95 v96 v97 v98 v99 v100 v101 v102 v103 v104 v105 v106 v107 v108 v109 v110 v111 v112 v113 v114 v115 v116 v117 v118 v119 v120 : Value)  (W9 : World), Put w W9 b (5 + n) (sumD l now m c n) → Q .normal ({ tmps := (Value.slice pd n cd :: u1 :: Value.int .i64 now :: u3 :: u4 :: u5 :: u6 :: u7 :: u8 :: u9 :: u10 :: u11 :: Value.int .i64 (m : Int) :: Value.int .i64 (c : Int) :: Value.pointer (some ⟨b, 0, none⟩) :: v15 :: u16 :: u17 :: u18 :: u19 :: u20 :: u21 :: u22 :: u23 :: u24 :: u25 :: u26 :: u27 :: u28 :: u29 :: u30 :: u31 :: u32 :: u33 :: u34 :: u35 :: u36 :: u37 :: u38 :: u39 :: u40 :: u41 :: u42 :: u43 :: u44 :: u45 :: u46 :: u47 :: u48 :: u49 :: u50 :: u51 :: u52 :: u53 :: u54 :: u55 :: u56 :: u57 :: u58 :: u59 :: u60 :: u61 :: u62 :: u63 :: u64 :: u65 :: u66 :: u67 :: u68 :: u69 :: u70 :: u71 :: u72 :: u73 :: u74 :: u75 :: u76 :: u77 :: u78 :: u79 :: u80 :: u81 :: v82 :: v83 :: v84 :: v85 :: v86 :: v87 :: v88 :: v89 :: v90 :: v91 :: v92 :: v93 :: v94 :: v95 :: v96 :: v97 :: v98 :: v99 :: v100 :: v101 :: v102 :: v103 :: v104 :: v105 :: v106 :: v107 :: v108 :: v109 :: v110 :: v111 :: v112 :: v113 :: v114 :: v115 :: v116 :: v117 :: v118 :: v119 :: v120 :: u121 :: u122 :: u123 :: u124 :: u125 :: u126 :: u127 :: u128 :: u129 :: u130 :: u131 :: u132 :: u133 :: u134 :: u135 :: u136 :: u137 :: u138 :: u139 :: u140 :: u141 :: u142 :: u143 :: u144 :: u145 :: u146 :: u147 :: u148 :: u149 :: u150 :: u151 :: u152 :: u153 :: u154 :: u155 :: u156 :: u157 :: u158 :: u159 :: u160 :: u161 :: u162 :: u163 :: u164 :: u165 :: u166 :: u167 :: u168 :: u169 :: u170 :: u171 :: u172 :: u173 :: []).toArray, defers := [] } : Act) W9) :
    Code.wp Tryz.prog ck6 Q ({ tmps := (Value.slice pd n cd :: u1 :: Value.int .i64 now :: u3 :: u4 :: u5 :: u6 :: u7 :: u8 :: u9 :: u10 :: u11 :: Value.int .i64 (m : Int) :: Value.int .i64 (c : Int) :: Value.pointer (some ⟨b, 0, none⟩) :: Value.int .i64 0 :: u16 :: u17 :: u18 :: u19 :: u20 :: u21 :: u22 :: u23 :: u24 :: u25 :: u26 :: u27 :: u28 :: u29 :: u30 :: u31 :: u32 :: u33 :: u34 :: u35 :: u36 :: u37 :: u38 :: u39 :: u40 :: u41 :: u42 :: u43 :: u44 :: u45 :: u46 :: u47 :: u48 :: u49 :: u50 :: u51 :: u52 :: u53 :: u54 :: u55 :: u56 :: u57 :: u58 :: u59 :: u60 :: u61 :: u62 :: u63 :: u64 :: u65 :: u66 :: u67 :: u68 :: u69 :: u70 :: u71 :: u72 :: u73 :: u74 :: u75 :: u76 :: u77 :: u78 :: u79 :: u80 :: u81 :: u82 :: u83 :: u84 :: u85 :: u86 :: u87 :: u88 :: u89 :: u90 :: u91 :: u92 :: u93 :: u94 :: u95 :: u96 :: u97 :: u98 :: u99 :: u100 :: u101 :: u102 :: u103 :: u104 :: u105 :: u106 :: u107 :: u108 :: u109 :: u110 :: u111 :: u112 :: u113 :: u114 :: u115 :: u116 :: u117 :: u118 :: u119 :: u120 :: u121 :: u122 :: u123 :: u124 :: u125 :: u126 :: u127 :: u128 :: u129 :: u130 :: u131 :: u132 :: u133 :: u134 :: u135 :: u136 :: u137 :: u138 :: u139 :: u140 :: u141 :: u142 :: u143 :: u144 :: u145 :: u146 :: u147 :: u148 :: u149 :: u150 :: u151 :: u152 :: u153 :: u154 :: u155 :: u156 :: u157 :: u158 :: u159 :: u160 :: u161 :: u162 :: u163 :: u164 :: u165 :: u166 :: u167 :: u168 :: u169 :: u170 :: u171 :: u172 :: u173 :: []).toArray, defers := [] } : Act) w := by
  replace hK := Lib.hid hK
  have h0 : Hid (Put w w b (5 + 0) (sumD l now m c 0)) := Lib.hid ⟨⟨_, _, _, _, hA⟩, Kp.refl _ _⟩
  obtain ⟨a1, cap1, e1, hcap, hrd⟩ := hU
  obtain ⟨rfl, rfl⟩ : pd = a1 ∧ cd = cap1 := by injection e1 with x1 _ x3; exact ⟨x1, x3⟩
  have hbl := hA.lt
  replace hrd := Lib.hid hrd
  replace hn := Lib.hid hn
  replace hbd := Lib.hid hbd
  replace hin := Lib.hid hin
  clear e1 hcap hA
  conv => arg 2; whnf
  go_wp2_with fail
  go_loopw [15] (fun i wr => ∃ k : Nat, k ≤ n ∧ i = .int .i64 (k : Int) ∧ Hid (Put w wr b (5 + k) (sumD l now m c k))) (fun i _ => n - (intOf i).toNat)
  case atStart => exact ⟨0, by omega, rfl, h0⟩
  case round =>
    obtain ⟨k, hk, rfl, hS⟩ := hrel
    by_cases hkn : k < n
    · have hkl : k < l.length := by have := hn.out; omega
      have zk : (k : Int) < (n : Int) := by omega
      obtain ⟨bd, od, rfl, hlt, hall⟩ := hrd.out.resolve_left (by rintro rfl; simp at hkl)
      have hbb : bd < b := hbd.out (by omega) bd od rfl
      have e0 := hS.out.cell (hall k hkl 0 _ rfl) hlt (by omega)
      have e1 := hS.out.cell (hall k hkl 1 _ rfl) hlt (by omega)
      have e2 := hS.out.cell (hall k hkl 2 _ rfl) hlt (by omega)
      have e3 := hS.out.cell (hall k hkl 3 _ rfl) hlt (by omega)
      rw [Nat.add_zero] at e0
      have hgr : bd < wr.heap.size := Nat.lt_of_lt_of_le hlt hS.out.kp.size
      have hsucc := sumD_succ (now := now) (m := m) (c := c) hkl
      have hix := hin.out _ (List.getElem_mem hkl)
      obtain ⟨S, hSd⟩ : ∃ S, S = sumD l now m c k := ⟨_, rfl⟩
      rw [← hSd] at hS hsucc
      replace hSd := Lib.hid hSd
      clear hall
      generalize l[k] = x at *
      obtain ⟨y1, y2, y3, y4⟩ := x
      dsimp only at e0 e1 e2 e3 hsucc hix
      unfold In64 at hix
      have hno : Hid (¬ (y3 ≤ now ∧ y1 = m ∧ y2 = c) → Put w wr b (5 + (k + 1)) (sumD l now m c (k + 1))) := Lib.hid fun h => by
        rw [hsucc, if_neg h]
        obtain ⟨⟨q1, q2, q3, q4, q5⟩, q6⟩ := hS.out
        exact ⟨⟨q1, q2, q3, q4, big_wide q5 (by omega)⟩, q6⟩
      by_cases ht : y3 ≤ now
      · by_cases hm : y1 = m
        · by_cases hc : y2 = c
          · rw [if_pos ⟨ht, hm, hc⟩] at hsucc
            replace hsucc := Lib.hid hsucc
            subst hm hc
            obtain ⟨⟨n1, p1, l1, c1, hB1⟩, hkp1⟩ := hS.out
            replace hB1 := Lib.hid hB1
            replace hkp1 := Lib.hid hkp1
            go_upto_if 112 with fail
            refine k25_any b bd od n cd k (5 + k) S y4 n1 p1 l1 c1 wr hB1.out (by omega) (by omega) e3 hkn (by omega) (by omega) _ _ _ _ _ _ _ _ _ _ _ _ _ _ _ _ _ _ _ _ _ _ _ _ _ _ _ _ _ _ _ _ _ _ _ _ _ _ _ _ _ _ _ _ _ _ _ _ _ _ _ _ _ _ _ _ _ _ _ _ _ _ _ _ _ _ _ _ _ _ _ _ _ _ _ _ _ _ _ _ _ _ _ _ _ _ _ _ _ _ _ _ _ _ _ _ _ _ _ _ _ _ _ _ _ _ _ _ _ _ _ _ _ _ _ _ _ _ _ _ _ _ _ _ _ _ _ _ _ _ _ _ _ _ _ _ _ _ _ _ _ _ _ _ _ _ _ _ _ _ _ _ _ _ _ _ _ _ _ _ _ _ _ _ _ _ _ _ _ _ ?_
            intro v113 v114 v115 v116 v117 v118 v119 v120 W2 hP2
            have hfin : Hid (Put w W2 b (5 + (k + 1)) (sumD l now m c (k + 1))) := Lib.hid (by
              rw [hsucc.out]
              exact ⟨hP2.at_, hkp1.out.trans hP2.kp⟩)
            clear hP2 e0 e1 e2 e3
            go_wp2_with fail
            go_roundw
            case rel => exact ⟨k + 1, by omega, by go_num, hfin⟩
            case measure => simp [intOf]; omega
          · have hx := Lib.hid (hno.out (fun h => hc h.2.2))
            have zc : (y2 == (c : Int)) = false := by simp [hc]
            replace hsucc := True.intro
            go_wp2_with fail
            go_roundw
            case rel => exact ⟨k + 1, by omega, by go_num, hx⟩
            case measure => simp [intOf]; omega
        · have hx := Lib.hid (hno.out (fun h => hm h.2.1))
          have zc : (y1 == (m : Int)) = false := by simp [hm]
          replace hsucc := True.intro
          go_wp2_with fail
          go_roundw
          case rel => exact ⟨k + 1, by omega, by go_num, hx⟩
          case measure => simp [intOf]; omega
      · have hx := Lib.hid (hno.out (fun h => ht h.1))
        replace hsucc := True.intro
        go_wp2_with fail
        go_roundw
        case rel => exact ⟨k + 1, by omega, by go_num, hx⟩
        case measure => simp [intOf]; omega
    · obtain rfl : k = n := by omega
      have zk : ¬ (k : Int) < (k : Int) := by omega
      go_wp2_with fail
      exact hK.out _ _ _ _ _ _ _ _ _ _ _ _ _ _ _ _ _ _ _ _ _ _ _ _ _ _ _ _ _ _ _ _ _ _ _ _ _ _ _ _ _ hS.out
end Go.Proofs.YthocnlalahknjaaGreat.Dd
