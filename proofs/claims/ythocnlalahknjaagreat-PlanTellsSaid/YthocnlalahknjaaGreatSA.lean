/- Parts of the reference's Schedule; rows of the document's dues. -/
import Derived.Test.YthocnlalahknjaaGreatQWcd
import Derived.Test.YthocnlalahknjaaGreatQT8
import Derived.Test.YthocnlalahknjaaGreatQNB
import Derived.Deep.RegionWith
namespace Go.Proofs.YthocnlalahknjaaGreat.Dd
open Go.RowKit Go.Maps
set_option linter.unusedVariables false
noncomputable def cs0 : Code := cpath [1, 1, 0, 1] (cbody Tryz.f14.body)
noncomputable def cs2 : Code := cpath [1, 1, 1, 1, 0, 1] (cbody Tryz.f14.body)
noncomputable def cs4 : Code := cpath [1, 1, 1, 1, 1, 1, 0, 1] (cbody Tryz.f14.body)
noncomputable def cs6 : Code := cpath [1, 1, 1, 1, 1, 1, 0, 1, 2, 3, 1, 0, 2, 1] (cbody Tryz.f14.body)
noncomputable def cs8 : Code := cpath [1, 1, 1, 1, 1, 1, 0, 1, 2, 3, 1, 0, 2, 1, 2, 3, 1, 0, 2, 1] (cbody Tryz.f14.body)
noncomputable def cs30 : Code := cpath [1, 1, 1, 1, 1, 1, 0, 1, 2, 3, 1, 0, 2, 1, 2, 3, 1, 0, 2, 1, 2, 3, 1, 0, 2, 1, 1, 1, 1] (cbody Tryz.f14.body)
theorem UO.made (w : World) : UO w (w.alloc (.cells #[] 62)) (.slice (some ⟨w.heap.size, 0, none⟩) 0 0) [] :=
  ⟨World.ownsRow_made w #[] 0 (Nat.zero_le _) (by decide) (by simp), fun g hg => by
    have : g = w.heap.size := by simpa [Value.ownBlock] using hg.symm
    omega, (Below.refl _ _).alloc (Nat.le_refl _) _⟩
theorem UO.below {w wr w' : World} {u : Value} {l : List Du} (h : UO w wr u l) (hb : Below wr.heap.size wr w') : UO w w' u l :=
  ⟨orow_kept h.row fun g hg => hb.block g (World.ownsRow.lt h.row g hg).2, h.own, h.bl.trans (hb.mono h.bl.size)⟩
theorem UO.app1 {w W : World} {u : Value} {l : List Du} (h : UO w W u l) (x : Du) (hl : l.length ≤ 1000000) :
    ∃ v' w', (Builtin.append_ #[42, 42] 42 #[u, .slice (some ⟨W.heap.size, 0, none⟩) 1 1]).run Tryz.prog (W.alloc (.cells #[.int .i64 x.m, .int .i64 x.c, .int .i64 x.t, .int .i64 x.n] 62)) = .ok v' w' ∧ UO w w' v' (l ++ [x]) := by
  have r1 : (W.alloc (.cells x.cs.toArray 62)).ownsRow 0 62 4 u l.length (cellsU l) := orow_kept h.row fun g' hg' => Below.heap_alloc _ _ _ (World.ownsRow.lt h.row g' hg').2
  obtain ⟨v', w', hr, ho, hg, hv⟩ := app1_run 42 62 4 32 _ Tryz.underlying42 info62 (by rfl) (by omega) (by omega) (W.alloc (.cells x.cs.toArray 62)) u l.length (cellsU l) r1 ⟨W.heap.size, 0, none⟩ x.cs rfl (boxU62 x (heap_alloc_new W _)) x.cs_one (by omega)
  refine ⟨v', w', hr, ?_, fun g' hg' => ?_, below_grown (h.bl.alloc (by have := h.bl.size; omega) _) hg h.own (Nat.le_refl _)⟩
  · rw [cellsU_app, List.length_append]; exact ho
  · rcases hv g' hg' with h4 | h4
    · exact h.own g' h4
    · have := h.bl.size; simp at h4; omega
set_option maxHeartbeats 4000000 in
set_option maxRecDepth 100000 in
theorem s0_any {Q : Exit → Act → World → Prop} (pz : Option Addr) (nz cz : Nat) (zs : List Int) (w : World)
    (hZ : Seq64 w pz nz zs) (hn : nz ≤ 16)
    (u0 u2 u3 u4 u5 u7 u8 u9 u10 u11 u12 u13 u14 u15 u16 u17 u18 u19 u20 u21 u22 u23 u24 u25 u26 u27 u28 u29 u30 u31 u32 u33 u34 u35 u36 u37 u38 u39 u40 u41 u42 u43 u44 u45 u46 u47 u48 u49 u50 u51 u52 u53 u54 u55 u56 u57 u58 u59 u60 u61 u62 u63 u64 u65 u66 u67 u68 u69 u70 u71 u72 u73 u74 u75 u76 u77 u78 u79 u80 u81 u82 u83 u84 u85 u86 u87 u88 u89 u90 u91 u92 u93 u94 u95 u96 u97 u98 u99 u100 u101 u102 u103 u104 u105 u106 u107 u108 u109 u110 u111 u112 u113 u114 u115 u116 u117 u118 u119 u120 u121 u122 u123 u124 u125 u126 u127 u128 u129 u130 : Value)
    (hE : ∀ (v6 v28 v29 v30 v31 v32 v33 v34 v35 v36 v37 v38 v39 v40 v41 v42 v43 : Value) (W9 : World), (∃ k j, k = j + 1 ∧ k < nz ∧ ¬ zs.getD j 0 < zs.getD k 0) → Below w.heap.size w W9 → Q .ret ({ tmps := (u0 :: Value.slice pz nz cz :: u2 :: u3 :: Value.slice none 0 0 :: Value.int .i64 1 :: v6 :: u7 :: u8 :: u9 :: u10 :: u11 :: u12 :: u13 :: u14 :: u15 :: u16 :: u17 :: u18 :: u19 :: u20 :: u21 :: u22 :: u23 :: u24 :: u25 :: u26 :: u27 :: v28 :: v29 :: v30 :: v31 :: v32 :: v33 :: v34 :: v35 :: v36 :: v37 :: v38 :: v39 :: v40 :: v41 :: v42 :: v43 :: u44 :: u45 :: u46 :: u47 :: u48 :: u49 :: u50 :: u51 :: u52 :: u53 :: u54 :: u55 :: u56 :: u57 :: u58 :: u59 :: u60 :: u61 :: u62 :: u63 :: u64 :: u65 :: u66 :: u67 :: u68 :: u69 :: u70 :: u71 :: u72 :: u73 :: u74 :: u75 :: u76 :: u77 :: u78 :: u79 :: u80 :: u81 :: u82 :: u83 :: u84 :: u85 :: u86 :: u87 :: u88 :: u89 :: u90 :: u91 :: u92 :: u93 :: u94 :: u95 :: u96 :: u97 :: u98 :: u99 :: u100 :: u101 :: u102 :: u103 :: u104 :: u105 :: u106 :: u107 :: u108 :: u109 :: u110 :: u111 :: u112 :: u113 :: u114 :: u115 :: u116 :: u117 :: u118 :: u119 :: u120 :: u121 :: u122 :: u123 :: u124 :: u125 :: u126 :: u127 :: u128 :: u129 :: u130 :: []).toArray, defers := [] } : Act) W9)
    (hK : ∀ (v4 v5 v6 v28 v29 v30 v31 v32 v33 v34 v35 v36 v37 v38 v39 v40 v41 v42 v43 : Value)  (W9 : World), (∀ k j, k = j + 1 → k < nz → zs.getD j 0 < zs.getD k 0) → Below w.heap.size w W9 → Q .normal ({ tmps := (u0 :: Value.slice pz nz cz :: u2 :: u3 :: v4 :: v5 :: v6 :: u7 :: u8 :: u9 :: u10 :: u11 :: u12 :: u13 :: u14 :: u15 :: u16 :: u17 :: u18 :: u19 :: u20 :: u21 :: u22 :: u23 :: u24 :: u25 :: u26 :: u27 :: v28 :: v29 :: v30 :: v31 :: v32 :: v33 :: v34 :: v35 :: v36 :: v37 :: v38 :: v39 :: v40 :: v41 :: v42 :: v43 :: u44 :: u45 :: u46 :: u47 :: u48 :: u49 :: u50 :: u51 :: u52 :: u53 :: u54 :: u55 :: u56 :: u57 :: u58 :: u59 :: u60 :: u61 :: u62 :: u63 :: u64 :: u65 :: u66 :: u67 :: u68 :: u69 :: u70 :: u71 :: u72 :: u73 :: u74 :: u75 :: u76 :: u77 :: u78 :: u79 :: u80 :: u81 :: u82 :: u83 :: u84 :: u85 :: u86 :: u87 :: u88 :: u89 :: u90 :: u91 :: u92 :: u93 :: u94 :: u95 :: u96 :: u97 :: u98 :: u99 :: u100 :: u101 :: u102 :: u103 :: u104 :: u105 :: u106 :: u107 :: u108 :: u109 :: u110 :: u111 :: u112 :: u113 :: u114 :: u115 :: u116 :: u117 :: u118 :: u119 :: u120 :: u121 :: u122 :: u123 :: u124 :: u125 :: u126 :: u127 :: u128 :: u129 :: u130 :: []).toArray, defers := [] } : Act) W9) :
    Code.wp Tryz.prog cs0 Q ({ tmps := (u0 :: Value.slice pz nz cz :: u2 :: u3 :: u4 :: u5 :: Value.int .i64 1 :: u7 :: u8 :: u9 :: u10 :: u11 :: u12 :: u13 :: u14 :: u15 :: u16 :: u17 :: u18 :: u19 :: u20 :: u21 :: u22 :: u23 :: u24 :: u25 :: u26 :: u27 :: u28 :: u29 :: u30 :: u31 :: u32 :: u33 :: u34 :: u35 :: u36 :: u37 :: u38 :: u39 :: u40 :: u41 :: u42 :: u43 :: u44 :: u45 :: u46 :: u47 :: u48 :: u49 :: u50 :: u51 :: u52 :: u53 :: u54 :: u55 :: u56 :: u57 :: u58 :: u59 :: u60 :: u61 :: u62 :: u63 :: u64 :: u65 :: u66 :: u67 :: u68 :: u69 :: u70 :: u71 :: u72 :: u73 :: u74 :: u75 :: u76 :: u77 :: u78 :: u79 :: u80 :: u81 :: u82 :: u83 :: u84 :: u85 :: u86 :: u87 :: u88 :: u89 :: u90 :: u91 :: u92 :: u93 :: u94 :: u95 :: u96 :: u97 :: u98 :: u99 :: u100 :: u101 :: u102 :: u103 :: u104 :: u105 :: u106 :: u107 :: u108 :: u109 :: u110 :: u111 :: u112 :: u113 :: u114 :: u115 :: u116 :: u117 :: u118 :: u119 :: u120 :: u121 :: u122 :: u123 :: u124 :: u125 :: u126 :: u127 :: u128 :: u129 :: u130 :: []).toArray, defers := [] } : Act) w := by
  replace hK := Lib.hid hK
  replace hE := Lib.hid hE
  replace hZ := Lib.hid hZ
  conv => arg 2; whnf
  go_wp2_with fail
  go_loopw [6] (fun i wr => ∃ k : Nat, 1 ≤ k ∧ k ≤ nz + 1 ∧ i = .int .i64 (k : Int) ∧ Hid (∀ k' j, k' = j + 1 → k' < nz → k' < k → zs.getD j 0 < zs.getD k' 0) ∧ Hid (Below w.heap.size w wr)) (fun i _ => nz + 1 - (intOf i).toNat)
  case atStart => exact ⟨1, by omega, by omega, rfl, Lib.hid (fun k' j h1 h2 h3 => by omega), Lib.hid (Below.refl _ _)⟩
  case round =>
    obtain ⟨k, hk1, hkn, rfl, hA, hS⟩ := hrel
    by_cases hkn2 : k < nz
    · obtain ⟨-, -, -, hcs⟩ := hZ.out
      obtain ⟨b, off, rfl, hlt, hall⟩ := hcs.resolve_left (by omega)
      obtain ⟨j, hj⟩ : ∃ j, k = j + 1 := ⟨k - 1, by omega⟩
      have hbl := hS.out
      have e2 := (hbl.cell (p := ⟨b, off + k, none⟩) hlt).trans (hall k hkn2)
      have e3 := (hbl.cell (p := ⟨b, off + j, none⟩) hlt).trans (hall j (by omega))
      have hgl : b < wr.heap.size := Nat.lt_of_lt_of_le hlt hbl.size
      have zk : (k : Int) < (nz : Int) := by omega
      have zq : IntKind.i64.wrap ((k : Int) - 1) = (j : Int) := by rw [IntKind.wrap_i64]; omega
      have zj : (j : Int) < (nz : Int) := by omega
      have hbd : Hid (∀ q, Below w.heap.size w (wr.drewN q)) := Lib.hid fun q => ⟨hbl.os, hbl.tape, hbl.output, hbl.size, hbl.block⟩
      have hnx : Hid (zs.getD j 0 < zs.getD k 0 → ∀ k' j, k' = j + 1 → k' < nz → k' < k + 1 → zs.getD j 0 < zs.getD k' 0) := Lib.hid fun h k' j' h1 h2 h3 => by
        by_cases e : k' = k
        · subst e; obtain rfl : j' = j := by omega
          exact h
        · exact hA.out k' j' h1 h2 (by omega)
      have hex : Hid (¬ zs.getD j 0 < zs.getD k 0 → ∃ k j, k = j + 1 ∧ k < nz ∧ ¬ zs.getD j 0 < zs.getD k 0) := Lib.hid fun h => ⟨k, j, hj, hkn2, h⟩
      generalize zs.getD j 0 = tj at *
      generalize zs.getD k 0 = tk at *
      replace hj := Lib.hid hj
      clear hall hcs hbl
      by_cases hlt2 : tj < tk
      · have zt : ¬ tk ≤ tj := by omega
        have hx := Lib.hid (hnx.out hlt2)
        go_upto_region 6 with fail
        go_quiet (fail)
        go_wp2_with fail
        go_roundw
        case rel => exact ⟨k + 1, by omega, by omega, by go_num, hx, Lib.hid (hbd.out _)⟩
        case measure => simp [intOf]; omega
      · have zt : tk ≤ tj := by omega
        have hx := Lib.hid (hex.out hlt2)
        go_upto_region 6 with fail
        go_quiet (fail)
        go_wp2_with fail
        exact hE.out _ _ _ _ _ _ _ _ _ _ _ _ _ _ _ _ _ _ hx.out (hbd.out _)
    · have zk : ¬ (k : Int) < (nz : Int) := by omega
      have hx : Hid (∀ k j, k = j + 1 → k < nz → zs.getD j 0 < zs.getD k 0) := Lib.hid fun k' j h1 h2 => hA.out k' j h1 h2 (by omega)
      go_wp2_with fail
      exact hK.out _ _ _ _ _ _ _ _ _ _ _ _ _ _ _ _ _ _ _ _ hx.out hS.out
set_option maxHeartbeats 4000000 in
set_option maxRecDepth 100000 in
theorem s2_any {Q : Exit → Act → World → Prop} (pn : Option Addr) (M cn : Nat) (rows : List (List Int)) (w : World)
    (hN : NSeq w (.slice pn M cn) rows) (hM : M = rows.length) (hM16 : M ≤ 16)
    (u1 u2 u3 u4 u5 u6 u8 u9 u10 u11 u12 u13 u14 u15 u16 u17 u18 u19 u20 u21 u22 u23 u24 u25 u26 u27 u28 u29 u30 u31 u32 u33 u34 u35 u36 u37 u38 u39 u40 u41 u42 u43 u44 u45 u46 u47 u48 u49 u50 u51 u52 u53 u54 u55 u56 u57 u58 u59 u60 u61 u62 u63 u64 u65 u66 u67 u68 u69 u70 u71 u72 u73 u74 u75 u76 u77 u78 u79 u80 u81 u82 u83 u84 u85 u86 u87 u88 u89 u90 u91 u92 u93 u94 u95 u96 u97 u98 u99 u100 u101 u102 u103 u104 u105 u106 u107 u108 u109 u110 u111 u112 u113 u114 u115 u116 u117 u118 u119 u120 u121 u122 u123 u124 u125 u126 u127 u128 u129 u130 : Value)
    (hE : ∀ (v7 v47 v48 v49 v50 v51 v52 v53 v54 v55 v56 v57 v58 : Value) (W9 : World), (∃ r ∈ rows, 8 < r.length) → w = W9 → Q .ret ({ tmps := (Value.slice pn M cn :: u1 :: u2 :: u3 :: Value.slice none 0 0 :: Value.int .i64 4 :: u6 :: v7 :: u8 :: u9 :: u10 :: u11 :: u12 :: u13 :: u14 :: u15 :: u16 :: u17 :: u18 :: u19 :: u20 :: u21 :: u22 :: u23 :: u24 :: u25 :: u26 :: u27 :: u28 :: u29 :: u30 :: u31 :: u32 :: u33 :: u34 :: u35 :: u36 :: u37 :: u38 :: u39 :: u40 :: u41 :: u42 :: u43 :: u44 :: u45 :: u46 :: v47 :: v48 :: v49 :: v50 :: v51 :: v52 :: v53 :: v54 :: v55 :: v56 :: v57 :: v58 :: u59 :: u60 :: u61 :: u62 :: u63 :: u64 :: u65 :: u66 :: u67 :: u68 :: u69 :: u70 :: u71 :: u72 :: u73 :: u74 :: u75 :: u76 :: u77 :: u78 :: u79 :: u80 :: u81 :: u82 :: u83 :: u84 :: u85 :: u86 :: u87 :: u88 :: u89 :: u90 :: u91 :: u92 :: u93 :: u94 :: u95 :: u96 :: u97 :: u98 :: u99 :: u100 :: u101 :: u102 :: u103 :: u104 :: u105 :: u106 :: u107 :: u108 :: u109 :: u110 :: u111 :: u112 :: u113 :: u114 :: u115 :: u116 :: u117 :: u118 :: u119 :: u120 :: u121 :: u122 :: u123 :: u124 :: u125 :: u126 :: u127 :: u128 :: u129 :: u130 :: []).toArray, defers := [] } : Act) W9)
    (hK : ∀ (v4 v5 v7 v47 v48 v49 v50 v51 v52 v53 v54 v55 v56 v57 v58 : Value)  (W9 : World), (∀ r ∈ rows, ¬ 8 < r.length) → w = W9 → Q .normal ({ tmps := (Value.slice pn M cn :: u1 :: u2 :: u3 :: v4 :: v5 :: u6 :: v7 :: u8 :: u9 :: u10 :: u11 :: u12 :: u13 :: u14 :: u15 :: u16 :: u17 :: u18 :: u19 :: u20 :: u21 :: u22 :: u23 :: u24 :: u25 :: u26 :: u27 :: u28 :: u29 :: u30 :: u31 :: u32 :: u33 :: u34 :: u35 :: u36 :: u37 :: u38 :: u39 :: u40 :: u41 :: u42 :: u43 :: u44 :: u45 :: u46 :: v47 :: v48 :: v49 :: v50 :: v51 :: v52 :: v53 :: v54 :: v55 :: v56 :: v57 :: v58 :: u59 :: u60 :: u61 :: u62 :: u63 :: u64 :: u65 :: u66 :: u67 :: u68 :: u69 :: u70 :: u71 :: u72 :: u73 :: u74 :: u75 :: u76 :: u77 :: u78 :: u79 :: u80 :: u81 :: u82 :: u83 :: u84 :: u85 :: u86 :: u87 :: u88 :: u89 :: u90 :: u91 :: u92 :: u93 :: u94 :: u95 :: u96 :: u97 :: u98 :: u99 :: u100 :: u101 :: u102 :: u103 :: u104 :: u105 :: u106 :: u107 :: u108 :: u109 :: u110 :: u111 :: u112 :: u113 :: u114 :: u115 :: u116 :: u117 :: u118 :: u119 :: u120 :: u121 :: u122 :: u123 :: u124 :: u125 :: u126 :: u127 :: u128 :: u129 :: u130 :: []).toArray, defers := [] } : Act) W9) :
    Code.wp Tryz.prog cs2 Q ({ tmps := (Value.slice pn M cn :: u1 :: u2 :: u3 :: u4 :: u5 :: u6 :: Value.int .i64 0 :: u8 :: u9 :: u10 :: u11 :: u12 :: u13 :: u14 :: u15 :: u16 :: u17 :: u18 :: u19 :: u20 :: u21 :: u22 :: u23 :: u24 :: u25 :: u26 :: u27 :: u28 :: u29 :: u30 :: u31 :: u32 :: u33 :: u34 :: u35 :: u36 :: u37 :: u38 :: u39 :: u40 :: u41 :: u42 :: u43 :: u44 :: u45 :: u46 :: u47 :: u48 :: u49 :: u50 :: u51 :: u52 :: u53 :: u54 :: u55 :: u56 :: u57 :: u58 :: u59 :: u60 :: u61 :: u62 :: u63 :: u64 :: u65 :: u66 :: u67 :: u68 :: u69 :: u70 :: u71 :: u72 :: u73 :: u74 :: u75 :: u76 :: u77 :: u78 :: u79 :: u80 :: u81 :: u82 :: u83 :: u84 :: u85 :: u86 :: u87 :: u88 :: u89 :: u90 :: u91 :: u92 :: u93 :: u94 :: u95 :: u96 :: u97 :: u98 :: u99 :: u100 :: u101 :: u102 :: u103 :: u104 :: u105 :: u106 :: u107 :: u108 :: u109 :: u110 :: u111 :: u112 :: u113 :: u114 :: u115 :: u116 :: u117 :: u118 :: u119 :: u120 :: u121 :: u122 :: u123 :: u124 :: u125 :: u126 :: u127 :: u128 :: u129 :: u130 :: []).toArray, defers := [] } : Act) w := by
  replace hK := Lib.hid hK
  replace hE := Lib.hid hE
  replace hN := Lib.hid hN
  replace hM := Lib.hid hM
  conv => arg 2; whnf
  go_wp2_with fail
  go_loopw [7] (fun i wr => ∃ k : Nat, k ≤ M ∧ i = .int .i64 (k : Int) ∧ Hid (∀ j (hj : j < rows.length), j < k → ¬ 8 < (rows[j]).length) ∧ wr = w) (fun i _ => M - (intOf i).toNat)
  case atStart => exact ⟨0, by omega, rfl, Lib.hid (fun j _ h => by omega), rfl⟩
  case round =>
    obtain ⟨k, hk, rfl, hA, rfl⟩ := hrel
    by_cases hkM : k < M
    · have zk : (k : Int) < (M : Int) := by omega
      have hkl : k < rows.length := by have := hM.out; omega
      obtain ⟨pn1, cn1, en, hrows⟩ := hN.out
      obtain ⟨rfl, -, rfl⟩ : pn = pn1 ∧ M = rows.length ∧ cn = cn1 := by injection en with x1 x2 x3; exact ⟨x1, x2, x3⟩
      obtain ⟨b, off, rfl, hlt, hall⟩ := hrows.resolve_left (by rintro rfl; simp at hkl)
      obtain ⟨pr, cr, hcell, hs⟩ := hall k hkl
      have hsz := hs.2.2.1
      have hnx : Hid (¬ 8 < (rows[k]).length → ∀ j (hj : j < rows.length), j < k + 1 → ¬ 8 < (rows[j]).length) := Lib.hid fun hh j hj hjk => by
        by_cases e : j = k
        · subst e; exact hh
        · exact hA.out j hj (by omega)
      have hex : Hid (8 < (rows[k]).length → ∃ r ∈ rows, 8 < r.length) := Lib.hid fun h => ⟨_, List.getElem_mem hkl, h⟩
      replace hs := True.intro
      clear hall hrows
      replace en := True.intro
      generalize (rows[k]).length = r at *
      by_cases h8 : 8 < r
      · have z : (8 : Int) < (r : Int) := by omega
        have hx := Lib.hid (hex.out h8)
        go_wp2_with fail
        exact hE.out _ _ _ _ _ _ _ _ _ _ _ _ _ _ hx.out rfl
      · have z : ¬ (8 : Int) < (r : Int) := by omega
        have hx := Lib.hid (hnx.out h8)
        go_wp2_with fail
        go_roundw
        case rel => exact ⟨k + 1, by omega, by go_num, hx, by trivial⟩
        case measure => simp [intOf]; omega
    · obtain rfl : k = M := by omega
      have zk : ¬ (k : Int) < (k : Int) := by omega
      have hx : Hid (∀ r ∈ rows, ¬ 8 < r.length) := Lib.hid fun r hr => by
        obtain ⟨j, hj, rfl⟩ := List.mem_iff_getElem.1 hr
        exact hA.out j hj (by have := hM.out; omega)
      go_wp2_with fail
      exact hK.out _ _ _ _ _ _ _ _ _ _ _ _ _ _ _ _ hx.out rfl
end Go.Proofs.YthocnlalahknjaaGreat.Dd
