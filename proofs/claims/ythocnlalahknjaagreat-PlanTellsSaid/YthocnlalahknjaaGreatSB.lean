/- The reference's Schedule: the loops. -/
import Derived.Test.YthocnlalahknjaaGreatSA
namespace Go.Proofs.YthocnlalahknjaaGreat.Dd
open Go.RowKit Go.Maps
set_option linter.unusedVariables false
/-- the due of one deadline, member and currency -/
def dueO (zs : List Int) (i m c : Nat) (x : Int) : List Du := if x < 0 then (dueAt m c zs (shares (-x) (List.replicate zs.length 1)) i).toList else []
def rowO (zs : List Int) (i m : Nat) (row : List Int) (k : Nat) : List Du := (List.range k).flatMap fun c => dueO zs i m c (row.getD c 0)
def matO (zs : List Int) (i : Nat) (rows : List (List Int)) (k : Nat) : List Du := (List.range k).flatMap fun m => rowO zs i m (rows.getD m []) (rows.getD m []).length
def schO (zs : List Int) (rows : List (List Int)) (k : Nat) : List Du := (List.range k).flatMap fun i => matO zs i rows rows.length
theorem rowO_succ (zs : List Int) (i m : Nat) (row : List Int) (k : Nat) : rowO zs i m row (k + 1) = rowO zs i m row k ++ dueO zs i m k (row.getD k 0) := by unfold rowO; rw [List.range_succ, List.flatMap_append]; simp
theorem matO_succ (zs : List Int) (i : Nat) (rows : List (List Int)) (k : Nat) : matO zs i rows (k + 1) = matO zs i rows k ++ rowO zs i k (rows.getD k []) (rows.getD k []).length := by unfold matO; rw [List.range_succ, List.flatMap_append]; simp
theorem schO_succ (zs : List Int) (rows : List (List Int)) (k : Nat) : schO zs rows (k + 1) = schO zs rows k ++ matO zs k rows rows.length := by unfold schO; rw [List.range_succ, List.flatMap_append]; simp
theorem dueO_le (zs : List Int) (i m c : Nat) (x : Int) : (dueO zs i m c x).length ≤ 1 := by
  unfold dueO; split
  · cases dueAt m c zs (shares (-x) (List.replicate zs.length 1)) i <;> simp
  · simp
theorem rowO_le (zs : List Int) (i m : Nat) (row : List Int) : ∀ k, (rowO zs i m row k).length ≤ k
  | 0 => by simp [rowO]
  | k + 1 => by rw [rowO_succ, List.length_append]; have := rowO_le zs i m row k; have := dueO_le zs i m k (row.getD k 0); omega
theorem matO_le (zs : List Int) (i : Nat) (rows : List (List Int)) (h : ∀ m, (rows.getD m []).length ≤ 8) : ∀ k, (matO zs i rows k).length ≤ 8 * k
  | 0 => by simp [matO]
  | k + 1 => by rw [matO_succ, List.length_append]; have := matO_le zs i rows h k; have := rowO_le zs i k (rows.getD k []) (rows.getD k []).length; have := h k; omega
theorem schO_le (zs : List Int) (rows : List (List Int)) (h : ∀ m, (rows.getD m []).length ≤ 8) (h16 : rows.length ≤ 16) : ∀ k, (schO zs rows k).length ≤ 128 * k
  | 0 => by simp [schO]
  | k + 1 => by rw [schO_succ, List.length_append]; have := schO_le zs rows h h16 k; have := matO_le zs k rows h rows.length; omega
theorem even_c (x : Int) (n : Nat) (hx : x < 0) (hx2 : -9223372036854775808 < x) (h1 : 1 ≤ n) (h16 : n ≤ 16) (W : World) : Calls Tryz.prog 37 #[.int .i64 (-x), .int .i64 (n : Int)] W fun e w' => Below W.heap.size W w' ∧ ∃ p cp, e = .returned (.tuple #[.slice p n cp, .int .i64 0]) ∧ Seq64 w' p n (shares (-x) (List.replicate n 1)) := by
  refine (evenR_any sharesR_any (-x) n W (by unfold Amt; omega) (by unfold Amt; omega)).mono fun e w' ⟨hb, h⟩ => ⟨hb, ?_⟩
  rcases h with ⟨h, _⟩ | ⟨_, h, _⟩ | ⟨m, hm, _, _, _, h⟩
  · omega
  · omega
  · obtain rfl : m = n := by omega
    rcases h with ⟨h, _⟩ | ⟨_, p, cp, rfl, h⟩
    · exact absurd (shE_ones (by omega) h1 (by omega)) h
    · rw [List.length_replicate] at h ⊢
      exact ⟨p, cp, rfl, h⟩
set_option maxHeartbeats 4000000 in
set_option maxRecDepth 100000 in
theorem k30_any {Q : Exit → Act → World → Prop} (m c n i bz oz cz b4 o4 c4 : Nat) (y0 : Value) (ti sh : Int) (T : List Du) (wB w : World)
    (h1 : w.cell? ⟨bz, oz + i, none⟩ = some (.int .i64 ti)) (h2 : w.cell? ⟨b4, o4 + i, none⟩ = some (.int .i64 sh)) (hi : i < n) (hS : UO wB w y0 T) (hT : T.length ≤ 4000)
    (u0 u2 u3 u4 u5 u6 u7 u13 u14 u15 u16 u17 u18 u19 u20 u21 u22 u23 u24 u25 u26 u27 u28 u29 u30 u31 u32 u33 u34 u35 u36 u37 u38 u39 u40 u41 u42 u43 u44 u45 u46 u47 u48 u49 u50 u51 u52 u53 u54 u55 u56 u57 u58 u59 u60 u61 u62 u63 u64 u65 u66 u67 u68 u69 u70 u71 u72 u73 u74 u75 u76 u77 u78 u79 u80 u81 u82 u83 u84 u85 u86 u87 u88 u89 u90 u91 u92 u93 u94 u95 u96 u97 u98 u99 u100 u101 u102 u103 u104 u105 u106 u107 u108 u109 u110 u111 u112 u113 u114 u116 u117 u118 u119 u120 u121 u122 u123 u124 u125 u126 u127 u128 u129 u130 : Value)
    (hK : ∀ (v8 v116 v117 v118 v119 v120 v121 v122 v123 v124 v125 v126 v127 v128 v129 : Value)  (W9 : World), UO wB W9 v8 (T ++ [⟨m, c, ti, sh⟩]) → Q .normal ({ tmps := (u0 :: Value.slice (some ⟨bz, oz, none⟩) n cz :: u2 :: u3 :: u4 :: u5 :: u6 :: u7 :: v8 :: Value.int .i64 (i : Int) :: Value.int .i64 (m : Int) :: Value.int .i64 (c : Int) :: Value.slice (some ⟨b4, o4, none⟩) n c4 :: u13 :: u14 :: u15 :: u16 :: u17 :: u18 :: u19 :: u20 :: u21 :: u22 :: u23 :: u24 :: u25 :: u26 :: u27 :: u28 :: u29 :: u30 :: u31 :: u32 :: u33 :: u34 :: u35 :: u36 :: u37 :: u38 :: u39 :: u40 :: u41 :: u42 :: u43 :: u44 :: u45 :: u46 :: u47 :: u48 :: u49 :: u50 :: u51 :: u52 :: u53 :: u54 :: u55 :: u56 :: u57 :: u58 :: u59 :: u60 :: u61 :: u62 :: u63 :: u64 :: u65 :: u66 :: u67 :: u68 :: u69 :: u70 :: u71 :: u72 :: u73 :: u74 :: u75 :: u76 :: u77 :: u78 :: u79 :: u80 :: u81 :: u82 :: u83 :: u84 :: u85 :: u86 :: u87 :: u88 :: u89 :: u90 :: u91 :: u92 :: u93 :: u94 :: u95 :: u96 :: u97 :: u98 :: u99 :: u100 :: u101 :: u102 :: u103 :: u104 :: u105 :: u106 :: u107 :: u108 :: u109 :: u110 :: u111 :: u112 :: u113 :: u114 :: Value.bool true :: v116 :: v117 :: v118 :: v119 :: v120 :: v121 :: v122 :: v123 :: v124 :: v125 :: v126 :: v127 :: v128 :: v129 :: u130 :: []).toArray, defers := [] } : Act) W9) :
    Code.wp Tryz.prog cs30 Q ({ tmps := (u0 :: Value.slice (some ⟨bz, oz, none⟩) n cz :: u2 :: u3 :: u4 :: u5 :: u6 :: u7 :: y0 :: Value.int .i64 (i : Int) :: Value.int .i64 (m : Int) :: Value.int .i64 (c : Int) :: Value.slice (some ⟨b4, o4, none⟩) n c4 :: u13 :: u14 :: u15 :: u16 :: u17 :: u18 :: u19 :: u20 :: u21 :: u22 :: u23 :: u24 :: u25 :: u26 :: u27 :: u28 :: u29 :: u30 :: u31 :: u32 :: u33 :: u34 :: u35 :: u36 :: u37 :: u38 :: u39 :: u40 :: u41 :: u42 :: u43 :: u44 :: u45 :: u46 :: u47 :: u48 :: u49 :: u50 :: u51 :: u52 :: u53 :: u54 :: u55 :: u56 :: u57 :: u58 :: u59 :: u60 :: u61 :: u62 :: u63 :: u64 :: u65 :: u66 :: u67 :: u68 :: u69 :: u70 :: u71 :: u72 :: u73 :: u74 :: u75 :: u76 :: u77 :: u78 :: u79 :: u80 :: u81 :: u82 :: u83 :: u84 :: u85 :: u86 :: u87 :: u88 :: u89 :: u90 :: u91 :: u92 :: u93 :: u94 :: u95 :: u96 :: u97 :: u98 :: u99 :: u100 :: u101 :: u102 :: u103 :: u104 :: u105 :: u106 :: u107 :: u108 :: u109 :: u110 :: u111 :: u112 :: u113 :: u114 :: Value.bool true :: u116 :: u117 :: u118 :: u119 :: u120 :: u121 :: u122 :: u123 :: u124 :: u125 :: u126 :: u127 :: u128 :: u129 :: u130 :: []).toArray, defers := [] } : Act) w := by
  replace hK := Lib.hid hK
  refine wp_norm (R := fun a W9 => ∃ v8 v116 v117 v118 v119 v120 v121 v122 v123 v124 v125 v126 v127 v128 v129 : Value, a = ({ tmps := (u0 :: Value.slice (some ⟨bz, oz, none⟩) n cz :: u2 :: u3 :: u4 :: u5 :: u6 :: u7 :: v8 :: Value.int .i64 (i : Int) :: Value.int .i64 (m : Int) :: Value.int .i64 (c : Int) :: Value.slice (some ⟨b4, o4, none⟩) n c4 :: u13 :: u14 :: u15 :: u16 :: u17 :: u18 :: u19 :: u20 :: u21 :: u22 :: u23 :: u24 :: u25 :: u26 :: u27 :: u28 :: u29 :: u30 :: u31 :: u32 :: u33 :: u34 :: u35 :: u36 :: u37 :: u38 :: u39 :: u40 :: u41 :: u42 :: u43 :: u44 :: u45 :: u46 :: u47 :: u48 :: u49 :: u50 :: u51 :: u52 :: u53 :: u54 :: u55 :: u56 :: u57 :: u58 :: u59 :: u60 :: u61 :: u62 :: u63 :: u64 :: u65 :: u66 :: u67 :: u68 :: u69 :: u70 :: u71 :: u72 :: u73 :: u74 :: u75 :: u76 :: u77 :: u78 :: u79 :: u80 :: u81 :: u82 :: u83 :: u84 :: u85 :: u86 :: u87 :: u88 :: u89 :: u90 :: u91 :: u92 :: u93 :: u94 :: u95 :: u96 :: u97 :: u98 :: u99 :: u100 :: u101 :: u102 :: u103 :: u104 :: u105 :: u106 :: u107 :: u108 :: u109 :: u110 :: u111 :: u112 :: u113 :: u114 :: Value.bool true :: v116 :: v117 :: v118 :: v119 :: v120 :: v121 :: v122 :: v123 :: v124 :: v125 :: v126 :: v127 :: v128 :: v129 :: u130 :: []).toArray, defers := [] } : Act) ∧ UO wB W9 v8 (T ++ [⟨m, c, ti, sh⟩])) ?_ (by rintro a W9 ⟨v8, v116, v117, v118, v119, v120, v121, v122, v123, v124, v125, v126, v127, v128, v129, rfl, hP⟩; exact hK.out v8 v116 v117 v118 v119 v120 v121 v122 v123 v124 v125 v126 v127 v128 v129 W9 hP)
  have zi : (i : Int) < (n : Int) := by omega
  have g1 : w.drew.cell? ⟨bz, oz + i, none⟩ = some (.int .i64 ti) := h1
  have g2 : w.drew.cell? ⟨b4, o4 + i, none⟩ = some (.int .i64 sh) := h2
  have hap := (hS.below (w' := w.drew) ((Below.refl _ _).drew)).app1 ⟨m, c, ti, sh⟩ (by omega)
  obtain ⟨v7, w7, hr7, hR7⟩ := hap
  replace hr7 := Lib.hid hr7
  replace hR7 := Lib.hid hR7
  clear hS hK
  conv => arg 2; whnf
  go_wp2_with fail
  try go_upto_region 30 with fail
  go_region_law (first | (refine step_app rfl _ _ _ _ rfl _ _ _ _ rfl rfl hr7.out ?_))
  all_goals
    go_wp2_with fail
    exact ⟨_, _, _, _, _, _, _, _, _, _, _, _, _, _, _, rfl, hR7.out⟩
set_option maxHeartbeats 4000000 in
set_option maxRecDepth 100000 in
theorem s8_any {Q : Exit → Act → World → Prop} (pn : Option Addr) (M cn : Nat) (rows : List (List Int)) (pz : Option Addr) (n cz : Nat) (zs : List Int) (y0 : Value) (i m k : Nat) (row : List Int) (l0 : List Du) (wB w : World)
    (hN : NSeq wB (.slice pn M cn) rows) (hm : m < rows.length) (hrow : rows[m] = row) (hk : k = row.length) (hk8 : k ≤ 8) (hZ : Seq64 wB pz n zs) (h1 : 1 ≤ n) (h16 : n ≤ 16) (hi : i < n) (hU : UO wB w y0 l0) (hl0 : l0.length ≤ 3000)
    (u2 u3 u4 u5 u6 u7 u12 u13 u14 u15 u16 u17 u18 u19 u20 u21 u22 u23 u24 u25 u26 u27 u28 u29 u30 u31 u32 u33 u34 u35 u36 u37 u38 u39 u40 u41 u42 u43 u44 u45 u46 u47 u48 u49 u50 u51 u52 u53 u54 u55 u56 u57 u58 u59 u60 u61 u62 u63 u64 u65 u66 u67 u68 u69 u70 u71 u72 u73 u74 u75 u76 u77 u78 u79 u80 u81 u82 u83 u84 u85 u86 u87 u88 u89 u90 u91 u92 u93 u94 u95 u96 u97 u98 u99 u100 u101 u102 u103 u104 u105 u106 u107 u108 u109 u110 u111 u112 u113 u114 u115 u116 u117 u118 u119 u120 u121 u122 u123 u124 u125 u126 u127 u128 u129 u130 : Value)
    (hE : ∀ (v8 v11 v12 v13 v72 v73 v74 v75 v76 v77 v78 v79 v80 v81 v82 v83 v84 v85 v86 v87 v88 v89 v90 v91 v92 v93 v94 v95 v96 v97 v98 v99 v100 v101 v102 v103 v104 v105 v106 v107 v108 v109 v110 v111 v112 v113 v114 v115 v116 v117 v118 v119 v120 v121 v122 v123 v124 v125 v126 v127 v128 v129 : Value) (W9 : World), (∃ c, c < k ∧ row.getD c 0 = -9223372036854775808) → Below wB.heap.size wB W9 → Q .ret ({ tmps := (Value.slice pn M cn :: Value.slice pz n cz :: u2 :: u3 :: Value.slice none 0 0 :: Value.int .i64 3 :: u6 :: u7 :: v8 :: Value.int .i64 (i : Int) :: Value.int .i64 (m : Int) :: v11 :: v12 :: v13 :: u14 :: u15 :: u16 :: u17 :: u18 :: u19 :: u20 :: u21 :: u22 :: u23 :: u24 :: u25 :: u26 :: u27 :: u28 :: u29 :: u30 :: u31 :: u32 :: u33 :: u34 :: u35 :: u36 :: u37 :: u38 :: u39 :: u40 :: u41 :: u42 :: u43 :: u44 :: u45 :: u46 :: u47 :: u48 :: u49 :: u50 :: u51 :: u52 :: u53 :: u54 :: u55 :: u56 :: u57 :: u58 :: u59 :: u60 :: u61 :: u62 :: u63 :: u64 :: u65 :: u66 :: u67 :: u68 :: u69 :: u70 :: u71 :: v72 :: v73 :: v74 :: v75 :: v76 :: v77 :: v78 :: v79 :: v80 :: v81 :: v82 :: v83 :: v84 :: v85 :: v86 :: v87 :: v88 :: v89 :: v90 :: v91 :: v92 :: v93 :: v94 :: v95 :: v96 :: v97 :: v98 :: v99 :: v100 :: v101 :: v102 :: v103 :: v104 :: v105 :: v106 :: v107 :: v108 :: v109 :: v110 :: v111 :: v112 :: v113 :: v114 :: v115 :: v116 :: v117 :: v118 :: v119 :: v120 :: v121 :: v122 :: v123 :: v124 :: v125 :: v126 :: v127 :: v128 :: v129 :: u130 :: []).toArray, defers := [] } : Act) W9)
    (hK : ∀ (v4 v5 v8 v11 v12 v13 v72 v73 v74 v75 v76 v77 v78 v79 v80 v81 v82 v83 v84 v85 v86 v87 v88 v89 v90 v91 v92 v93 v94 v95 v96 v97 v98 v99 v100 v101 v102 v103 v104 v105 v106 v107 v108 v109 v110 v111 v112 v113 v114 v115 v116 v117 v118 v119 v120 v121 v122 v123 v124 v125 v126 v127 v128 v129 : Value)  (W9 : World), (∀ c, c < k → row.getD c 0 ≠ -9223372036854775808) → UO wB W9 v8 (l0 ++ rowO zs i m row k) → Q .normal ({ tmps := (Value.slice pn M cn :: Value.slice pz n cz :: u2 :: u3 :: v4 :: v5 :: u6 :: u7 :: v8 :: Value.int .i64 (i : Int) :: Value.int .i64 (m : Int) :: v11 :: v12 :: v13 :: u14 :: u15 :: u16 :: u17 :: u18 :: u19 :: u20 :: u21 :: u22 :: u23 :: u24 :: u25 :: u26 :: u27 :: u28 :: u29 :: u30 :: u31 :: u32 :: u33 :: u34 :: u35 :: u36 :: u37 :: u38 :: u39 :: u40 :: u41 :: u42 :: u43 :: u44 :: u45 :: u46 :: u47 :: u48 :: u49 :: u50 :: u51 :: u52 :: u53 :: u54 :: u55 :: u56 :: u57 :: u58 :: u59 :: u60 :: u61 :: u62 :: u63 :: u64 :: u65 :: u66 :: u67 :: u68 :: u69 :: u70 :: u71 :: v72 :: v73 :: v74 :: v75 :: v76 :: v77 :: v78 :: v79 :: v80 :: v81 :: v82 :: v83 :: v84 :: v85 :: v86 :: v87 :: v88 :: v89 :: v90 :: v91 :: v92 :: v93 :: v94 :: v95 :: v96 :: v97 :: v98 :: v99 :: v100 :: v101 :: v102 :: v103 :: v104 :: v105 :: v106 :: v107 :: v108 :: v109 :: v110 :: v111 :: v112 :: v113 :: v114 :: v115 :: v116 :: v117 :: v118 :: v119 :: v120 :: v121 :: v122 :: v123 :: v124 :: v125 :: v126 :: v127 :: v128 :: v129 :: u130 :: []).toArray, defers := [] } : Act) W9) :
    Code.wp Tryz.prog cs8 Q ({ tmps := (Value.slice pn M cn :: Value.slice pz n cz :: u2 :: u3 :: u4 :: u5 :: u6 :: u7 :: y0 :: Value.int .i64 (i : Int) :: Value.int .i64 (m : Int) :: Value.int .i64 0 :: u12 :: u13 :: u14 :: u15 :: u16 :: u17 :: u18 :: u19 :: u20 :: u21 :: u22 :: u23 :: u24 :: u25 :: u26 :: u27 :: u28 :: u29 :: u30 :: u31 :: u32 :: u33 :: u34 :: u35 :: u36 :: u37 :: u38 :: u39 :: u40 :: u41 :: u42 :: u43 :: u44 :: u45 :: u46 :: u47 :: u48 :: u49 :: u50 :: u51 :: u52 :: u53 :: u54 :: u55 :: u56 :: u57 :: u58 :: u59 :: u60 :: u61 :: u62 :: u63 :: u64 :: u65 :: u66 :: u67 :: u68 :: u69 :: u70 :: u71 :: u72 :: u73 :: u74 :: u75 :: u76 :: u77 :: u78 :: u79 :: u80 :: u81 :: u82 :: u83 :: u84 :: u85 :: u86 :: u87 :: u88 :: u89 :: u90 :: u91 :: u92 :: u93 :: u94 :: u95 :: u96 :: u97 :: u98 :: u99 :: u100 :: u101 :: u102 :: u103 :: u104 :: u105 :: u106 :: u107 :: u108 :: u109 :: u110 :: u111 :: u112 :: u113 :: u114 :: u115 :: u116 :: u117 :: u118 :: u119 :: u120 :: u121 :: u122 :: u123 :: u124 :: u125 :: u126 :: u127 :: u128 :: u129 :: u130 :: []).toArray, defers := [] } : Act) w := by
  replace hK := Lib.hid hK
  have h0 : Hid (UO wB w y0 (l0 ++ rowO zs i m row 0)) := Lib.hid (by rw [show rowO zs i m row 0 = [] from rfl, List.append_nil]; exact hU)
  replace hE := Lib.hid hE
  have hZl := Lib.hid hZ.1
  obtain ⟨-, -, -, hzs⟩ := hZ
  obtain ⟨bz, oz, rfl, hltz, hallz⟩ := hzs.resolve_left (by omega)
  have hcz := Lib.hid (hallz i hi)
  obtain ⟨pn1, cn1, en, hrows⟩ := hN
  obtain ⟨rfl, hMr, rfl⟩ : pn = pn1 ∧ M = rows.length ∧ cn = cn1 := by injection en with x1 x2 x3; exact ⟨x1, x2, x3⟩
  obtain ⟨b, off, rfl, hlt, hall⟩ := hrows.resolve_left (by rintro rfl; simp at hm)
  obtain ⟨pr, cr, hcell, hs⟩ := hall m hm
  rw [hrow, ← hk] at hcell hs
  have zmM : (m : Int) < (M : Int) := by omega
  have zin : (i : Int) < (n : Int) := by omega
  replace hcell := Lib.hid hcell
  replace hs := Lib.hid hs
  replace hk := Lib.hid hk
  replace hMr := Lib.hid hMr
  replace hrow := True.intro
  clear hall hrows hallz hzs hU
  replace en := True.intro
  conv => arg 2; whnf
  go_wp2_with fail
  go_loopw [8, 11] (fun u j wr => ∃ c : Nat, c ≤ k ∧ j = .int .i64 (c : Int) ∧ Hid (∀ c', c' < c → row.getD c' 0 ≠ -9223372036854775808) ∧ Hid (UO wB wr u (l0 ++ rowO zs i m row c))) (fun _ j _ => k - (intOf j).toNat)
  case atStart => exact ⟨0, by omega, rfl, Lib.hid (fun c' h => by omega), h0⟩
  case round =>
    obtain ⟨c, hc, rfl, hA, hS⟩ := hrel
    have hbl := hS.out.bl
    have f1 := (hbl.cell (p := ⟨b, off + m, none⟩) hlt).trans hcell.out
    have hbr : b < wr.heap.size := Nat.lt_of_lt_of_le hlt hbl.size
    by_cases hck : c < k
    · have zc : (c : Int) < (k : Int) := by omega
      have hsw := hs.out
      obtain ⟨hrl, hz, -, hcs⟩ := hsw
      obtain ⟨b2, off2, rfl, hlt2, hall2⟩ := hcs.resolve_left (by omega)
      have hxa := hz c
      have f2 := (hbl.cell (p := ⟨b2, off2 + c, none⟩) hlt2).trans (hall2 c hck)
      have hb2r : b2 < wr.heap.size := Nat.lt_of_lt_of_le hlt2 hbl.size
      have hsucc := rowO_succ zs i m row c
      have hex : Hid (row.getD c 0 = -9223372036854775808 → ∃ c, c < k ∧ row.getD c 0 = -9223372036854775808) := Lib.hid fun h => ⟨c, hck, h⟩
      have hnx : Hid (row.getD c 0 ≠ -9223372036854775808 → ∀ c', c' < c + 1 → row.getD c' 0 ≠ -9223372036854775808) := Lib.hid fun hh c' hc' => by
        by_cases e : c' = c
        · subst e; exact hh
        · exact hA.out c' (by omega)
      have hle : (l0 ++ rowO zs i m row c).length ≤ 3008 := by rw [List.length_append]; have := rowO_le zs i m row c; omega
      have hsucc2 : l0 ++ rowO zs i m row (c + 1) = (l0 ++ rowO zs i m row c) ++ dueO zs i m c (row.getD c 0) := by rw [hsucc, List.append_assoc]
      obtain ⟨T, hT⟩ : ∃ T, T = l0 ++ rowO zs i m row c := ⟨_, rfl⟩
      rw [← hT] at hS hle hsucc2
      generalize row.getD c 0 = x at *
      unfold Amt at hxa
      replace hT := Lib.hid hT
      replace hsucc := True.intro
      replace hle := Lib.hid hle
      clear hall2 hcs hz
      by_cases hx0 : x < 0
      · have zx : ¬ (0 : Int) ≤ x := by omega
        by_cases hxm : x = -9223372036854775808
        · have hx := Lib.hid (hex.out hxm)
          have hbb := Lib.hid hbl
          subst hxm
          clear hbl hnx hsucc2
          go_wp2_with fail
          exact hE.out _ _ _ _ _ _ _ _ _ _ _ _ _ _ _ _ _ _ _ _ _ _ _ _ _ _ _ _ _ _ _ _ _ _ _ _ _ _ _ _ _ _ _ _ _ _ _ _ _ _ _ _ _ _ _ _ _ _ _ _ _ _ _ hx.out hbb.out
        · have hx := Lib.hid (hnx.out hxm)
          have zneg : IntKind.i64.wrap (-x) = -x := by rw [IntKind.wrap_i64]; omega
          have zxm : (x == (-9223372036854775808 : Int)) = false := by simp [hxm]
          have hev := Lib.hid fun W => even_c x n hx0 (by omega) h1 h16 W
          have hd : dueO zs i m c x = (dueAt m c zs (shares (-x) (List.replicate zs.length 1)) i).toList := by unfold dueO; rw [if_pos hx0]
          rw [hd, hZl.out] at hsucc2
          unfold dueAt at hsucc2
          have hbb := Lib.hid hbl
          clear hbl hd hnx
          go_upto_region 29 with (go_at_call 37; (with_reducible refine (hev.out wr).mono ?_); rintro e w4 ⟨hb4, p4, c4, rfl, hs4⟩)
          obtain ⟨-, -, -, hcs4⟩ := hs4
          obtain ⟨b4, off4, rfl, hlt4, hall4⟩ := hcs4.resolve_left (by omega)
          have g1 := hall4 i hi
          have g2 := ((hbb.out.trans (hb4.mono hbb.out.size)).cell (p := ⟨bz, oz + i, none⟩) hltz).trans hcz.out
          have hbz4 : bz < w4.heap.size := Nat.lt_of_lt_of_le hltz (Nat.le_trans hbb.out.size hb4.size)
          generalize (shares (-x) (List.replicate n 1)).getD i 0 = sh at *
          generalize zs.getD i 0 = ti at *
          have hS4 := Lib.hid (hS.out.below hb4)
          clear hall4 hcs4
          by_cases hsh : 0 < sh
          · have zs0 : (0 : Int) < sh := hsh
            rw [if_pos hsh] at hsucc2
            have hsc3 := Lib.hid hsucc2
            replace hsucc2 := True.intro
            replace hb4 := Lib.hid hb4
            go_upto_if 115 with fail
            refine k30_any m c n i bz oz cz b4 off4 c4 u8 ti sh T wB w4 g2 g1 hi hS4.out (by have := hle.out; omega) _ _ _ _ _ _ _ _ _ _ _ _ _ _ _ _ _ _ _ _ _ _ _ _ _ _ _ _ _ _ _ _ _ _ _ _ _ _ _ _ _ _ _ _ _ _ _ _ _ _ _ _ _ _ _ _ _ _ _ _ _ _ _ _ _ _ _ _ _ _ _ _ _ _ _ _ _ _ _ _ _ _ _ _ _ _ _ _ _ _ _ _ _ _ _ _ _ _ _ _ _ _ _ _ _ _ _ _ _ _ _ _ _ _ _ _ _ _ _ _ _ _ _ _ ?_
            intro v8 v116 v117 v118 v119 v120 v121 v122 v123 v124 v125 v126 v127 v128 v129 W7 hR7
            have hR8 : Hid (UO wB W7 v8 (l0 ++ rowO zs i m row (c + 1))) := Lib.hid (by rw [hsc3.out]; exact hR7)
            clear hR7
            go_wp2_with fail
            go_roundw
            case rel => exact ⟨c + 1, by omega, by go_num, hx, hR8⟩
            case measure => simp [intOf]; omega
          · have zs0 : ¬ (0 : Int) < sh := hsh
            rw [if_neg hsh] at hsucc2
            have hR8 : Hid (UO wB w4 u8 (l0 ++ rowO zs i m row (c + 1))) := Lib.hid (by rw [hsucc2]; show UO wB w4 u8 (T ++ []); rw [List.append_nil]; exact hS4.out)
            replace hsucc2 := True.intro
            go_wp2_with fail
            go_roundw
            case rel => exact ⟨c + 1, by omega, by go_num, hx, hR8⟩
            case measure => simp [intOf]; omega
      · have zx : (0 : Int) ≤ x := by omega
        have hx := Lib.hid (hnx.out (by omega))
        have hd : dueO zs i m c x = [] := by unfold dueO; rw [if_neg hx0]
        rw [hd, List.append_nil] at hsucc2
        have hR8 : Hid (UO wB wr u8 (l0 ++ rowO zs i m row (c + 1))) := Lib.hid (by rw [hsucc2]; exact hS.out)
        clear hbl hd hnx
        replace hsucc2 := True.intro
        go_wp2_with fail
        go_roundw
        case rel => exact ⟨c + 1, by omega, by go_num, hx, hR8⟩
        case measure => simp [intOf]; omega
    · obtain rfl : c = k := by omega
      have zk : ¬ (c : Int) < (c : Int) := by omega
      clear hbl
      go_wp2_with fail
      exact hK.out _ _ _ _ _ _ _ _ _ _ _ _ _ _ _ _ _ _ _ _ _ _ _ _ _ _ _ _ _ _ _ _ _ _ _ _ _ _ _ _ _ _ _ _ _ _ _ _ _ _ _ _ _ _ _ _ _ _ _ _ _ _ _ _ _ hA.out hS.out
end Go.Proofs.YthocnlalahknjaaGreat.Dd
