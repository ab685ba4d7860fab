/- Parts of PlanWhole's code.
  PlanWhole: the amounts of one account's dues. -/
import Derived.Test.YthocnlalahknjaaGreatQVab
import Derived.Test.YthocnlalahknjaaGreatQPii
import Derived.Deep.CutBlock
namespace Go.Proofs.YthocnlalahknjaaGreat.Dd
open Go.RowKit
set_option linter.unusedVariables false
/-- a part of a function's code -/
def cpath : List Nat → Code → Code
  | [], c => c
  | 0 :: r, .seq a b => cpath r a
  | 1 :: r, .seq a b => cpath r b
  | 2 :: r, .block _ c => cpath r c
  | 3 :: r, .loop c => cpath r c
  | _ :: _, c => c
def cbody : Option Code → Code
  | some c => c
  | none => .skip
noncomputable def cw0 : Code := cpath [1, 1, 1, 1, 1, 1, 0, 1] (cbody Tryz.f6.body)
noncomputable def cw2 : Code := cpath [1, 1, 1, 1, 1, 1, 0, 1, 2, 3, 1, 1, 0, 2, 1, 1, 0, 1] (cbody Tryz.f6.body)
noncomputable def cw4 : Code := cpath [1, 1, 1, 1, 1, 1, 0, 1, 2, 3, 1, 1, 0, 2, 1, 1, 0, 1, 2, 3, 1, 1, 0, 2, 1, 1, 0, 1] (cbody Tryz.f6.body)
noncomputable def cw6 : Code := cpath [1, 1, 1, 1, 1, 1, 1, 0, 1] (cbody Tryz.f6.body)
noncomputable def cw8 : Code := cpath [1, 1, 1, 1, 1, 1, 1, 1, 1, 1, 1, 0, 1] (cbody Tryz.f6.body)
noncomputable def cw10 : Code := cpath [1, 1, 1, 1, 1, 1, 1, 1, 1, 1, 1, 1, 0, 1] (cbody Tryz.f6.body)
end Go.Proofs.YthocnlalahknjaaGreat.Dd
namespace Go.Proofs.YthocnlalahknjaaGreat.Dd
open Go.RowKit Go.Maps
set_option linter.unusedVariables false

theorem IR.alloc {w wr : World} {u : Value} {l : List Int} (h : IR w wr u l) (o : Obj) : IR w (wr.alloc o) u l := ⟨h.pre o, h.own, h.bl.alloc h.bl.size o⟩
theorem IR.drewN {w wr : World} {u : Value} {l : List Int} (h : IR w wr u l) (q : Nat) : IR w (wr.drewN q) u l := ⟨orow_kept h.row fun _ _ => rfl, h.own, ⟨h.bl.os, h.bl.tape, h.bl.output, h.bl.size, h.bl.block⟩⟩
theorem IR.drew {w wr : World} {u : Value} {l : List Int} (h : IR w wr u l) : IR w wr.drew u l := ⟨orow_kept h.row fun _ _ => rfl, h.own, h.bl.drew⟩
theorem new_drawn (w : World) (o : Obj) (q : Nat) (T : Obj) : (((w.alloc o).drewN q).alloc T).heap[w.heap.size + 1]? = some T := by
  have := heap_alloc_new ((w.alloc o).drewN q) T
  have e : ((w.alloc o).drewN q).heap.size = w.heap.size + 1 := by show (w.alloc o).heap.size = _; simp
  rwa [e] at this
/-- its last number -/
theorem IR.lastc {w wr : World} {u : Value} {l : List Int} (h : IR w wr u l) {q : Nat} (hq : l.length = q + 1) : ∃ g cap, u = .slice (some ⟨g, 0, none⟩) l.length cap ∧ g < wr.heap.size ∧ ∀ i, i < l.length → wr.cell? ⟨g, i, none⟩ = some (.int .i64 (l.getD i 0)) := by
  obtain ⟨g, cap, cur, rfl, hg, _, _, _, hat⟩ := orow_some h.row (by omega)
  refine ⟨g, cap, rfl, obj_lt hg, fun i hi => ?_⟩
  refine obj_cell hg (hat i _ ?_)
  rw [List.getElem?_map, List.getElem?_eq_getElem hi, List.getD_eq_getElem?_getD, List.getElem?_eq_getElem hi]; rfl
set_option pp.deepTerms true in
set_option maxHeartbeats 4000000 in
set_option maxRecDepth 100000 in
theorem fil_any {Q : Exit → Act → World → Prop} (p : Option Addr) (n cap m c : Nat) (L : List Du) (A : Nat → List Int) (w : World)
    (h : USeq w (.slice p n cap) L) (hn : n = L.length) (hlen : n ≤ 4096) (hA0 : A 0 = []) (hAl : ∀ k, (A k).length ≤ k)
    (hAy : ∀ k (hk : k < L.length), L[k].m = m → L[k].c = c → A (k + 1) = A k ++ [L[k].n] ∧ 1 ≤ L[k].n ∧ ∀ q, (A k).length = q + 1 → L[k].n ≤ (A k).getD q 0)
    (hAn : ∀ k (hk : k < L.length), ¬ (L[k].m = m ∧ L[k].c = c) → A (k + 1) = A k)
    (u0 u1 u2 u3 u4 u5 u6 u7 u8 u9 u11 u13 u15 u16 u17 u18 u19 u20 u21 u22 u23 u24 u25 u26 u27 u28 u29 u30 u31 u32 u33 u34 u35 u36 u37 u38 u39 u40 u41 u42 u43 u44 u45 u46 u47 u48 u49 u50 u51 u52 u53 u54 u55 u56 u57 u58 u59 u60 u61 u62 u63 u67 u68 u69 u70 u71 u72 u73 u74 u75 u76 u77 u78 u79 u80 u81 u82 u83 u84 u85 u86 u87 u88 u89 u90 u91 u92 u93 u94 u95 u96 u97 u98 u99 u100 u101 u102 u103 u104 u105 u106 u107 u108 u109 u110 u111 u112 u113 u114 u115 u116 u117 u118 u119 u120 u121 u122 u123 u124 u125 u126 u127 u128 u129 u130 u131 u132 u133 u134 u135 u136 u137 u138 u139 u140 u141 u142 u143 u144 u145 u146 u147 u148 u149 u150 u151 u152 u153 u154 u155 u156 u157 u158 u159 u160 u161 u162 u163 u164 u165 u166 u167 u168 u169 u170 u171 u172 u173 u174 u175 u176 u177 u178 u179 u180 u181 u182 u183 u184 u185 u186 u187 u188 u189 u190 u191 u192 u193 u194 u195 u196 u197 u198 u199 u200 u201 u202 u203 u204 u205 u206 u207 u208 u209 u210 u211 u212 u213 u214 u215 u216 u217 u218 u219 u220 u221 u222 u223 u224 u225 u226 u227 u228 u229 u230 u231 u232 u233 u234 u235 u236 u237 u238 : Value)
    (hK : ∀ (v6 v14 v16 v66 v67 v68 v69 v70 v71 v72 v73 v74 v75 v76 v77 v78 v79 v80 v81 v82 v83 v84 v85 v86 v87 v88 v89 v90 v91 v92 v93 v94 v95 v96 v97 v98 v99 v100 v101 v102 v103 v104 : Value)  (W9 : World), IR w W9 v14 (A n) → Q .normal ({ tmps := (u0 :: u1 :: u2 :: u3 :: u4 :: u5 :: v6 :: u7 :: u8 :: u9 :: Value.int .i64 (m : Int) :: u11 :: Value.int .i64 (c : Int) :: u13 :: v14 :: u15 :: v16 :: u17 :: u18 :: u19 :: u20 :: u21 :: u22 :: u23 :: u24 :: u25 :: u26 :: u27 :: u28 :: u29 :: u30 :: u31 :: u32 :: u33 :: u34 :: u35 :: u36 :: u37 :: u38 :: u39 :: u40 :: u41 :: u42 :: u43 :: u44 :: u45 :: u46 :: u47 :: u48 :: u49 :: u50 :: u51 :: u52 :: u53 :: u54 :: u55 :: u56 :: u57 :: u58 :: u59 :: u60 :: u61 :: u62 :: u63 :: Value.slice p n cap :: Value.int .i64 (n : Int) :: v66 :: v67 :: v68 :: v69 :: v70 :: v71 :: v72 :: v73 :: v74 :: v75 :: v76 :: v77 :: v78 :: v79 :: v80 :: v81 :: v82 :: v83 :: v84 :: v85 :: v86 :: v87 :: v88 :: v89 :: v90 :: v91 :: v92 :: v93 :: v94 :: v95 :: v96 :: v97 :: v98 :: v99 :: v100 :: v101 :: v102 :: v103 :: v104 :: u105 :: u106 :: u107 :: u108 :: u109 :: u110 :: u111 :: u112 :: u113 :: u114 :: u115 :: u116 :: u117 :: u118 :: u119 :: u120 :: u121 :: u122 :: u123 :: u124 :: u125 :: u126 :: u127 :: u128 :: u129 :: u130 :: u131 :: u132 :: u133 :: u134 :: u135 :: u136 :: u137 :: u138 :: u139 :: u140 :: u141 :: u142 :: u143 :: u144 :: u145 :: u146 :: u147 :: u148 :: u149 :: u150 :: u151 :: u152 :: u153 :: u154 :: u155 :: u156 :: u157 :: u158 :: u159 :: u160 :: u161 :: u162 :: u163 :: u164 :: u165 :: u166 :: u167 :: u168 :: u169 :: u170 :: u171 :: u172 :: u173 :: u174 :: u175 :: u176 :: u177 :: u178 :: u179 :: u180 :: u181 :: u182 :: u183 :: u184 :: u185 :: u186 :: u187 :: u188 :: u189 :: u190 :: u191 :: u192 :: u193 :: u194 :: u195 :: u196 :: u197 :: u198 :: u199 :: u200 :: u201 :: u202 :: u203 :: u204 :: u205 :: u206 :: u207 :: u208 :: u209 :: u210 :: u211 :: u212 :: u213 :: u214 :: u215 :: u216 :: u217 :: u218 :: u219 :: u220 :: u221 :: u222 :: u223 :: u224 :: u225 :: u226 :: u227 :: u228 :: u229 :: u230 :: u231 :: u232 :: u233 :: u234 :: u235 :: u236 :: u237 :: u238 :: []).toArray, defers := [] } : Act) W9) :
    Code.wp Tryz.prog cw4 Q ({ tmps := (u0 :: u1 :: u2 :: u3 :: u4 :: u5 :: u6 :: u7 :: u8 :: u9 :: Value.int .i64 (m : Int) :: u11 :: Value.int .i64 (c : Int) :: u13 :: Value.slice none 0 0 :: u15 :: u16 :: u17 :: u18 :: u19 :: u20 :: u21 :: u22 :: u23 :: u24 :: u25 :: u26 :: u27 :: u28 :: u29 :: u30 :: u31 :: u32 :: u33 :: u34 :: u35 :: u36 :: u37 :: u38 :: u39 :: u40 :: u41 :: u42 :: u43 :: u44 :: u45 :: u46 :: u47 :: u48 :: u49 :: u50 :: u51 :: u52 :: u53 :: u54 :: u55 :: u56 :: u57 :: u58 :: u59 :: u60 :: u61 :: u62 :: u63 :: Value.slice p n cap :: Value.int .i64 (n : Int) :: Value.int .i64 0 :: u67 :: u68 :: u69 :: u70 :: u71 :: u72 :: u73 :: u74 :: u75 :: u76 :: u77 :: u78 :: u79 :: u80 :: u81 :: u82 :: u83 :: u84 :: u85 :: u86 :: u87 :: u88 :: u89 :: u90 :: u91 :: u92 :: u93 :: u94 :: u95 :: u96 :: u97 :: u98 :: u99 :: u100 :: u101 :: u102 :: u103 :: u104 :: u105 :: u106 :: u107 :: u108 :: u109 :: u110 :: u111 :: u112 :: u113 :: u114 :: u115 :: u116 :: u117 :: u118 :: u119 :: u120 :: u121 :: u122 :: u123 :: u124 :: u125 :: u126 :: u127 :: u128 :: u129 :: u130 :: u131 :: u132 :: u133 :: u134 :: u135 :: u136 :: u137 :: u138 :: u139 :: u140 :: u141 :: u142 :: u143 :: u144 :: u145 :: u146 :: u147 :: u148 :: u149 :: u150 :: u151 :: u152 :: u153 :: u154 :: u155 :: u156 :: u157 :: u158 :: u159 :: u160 :: u161 :: u162 :: u163 :: u164 :: u165 :: u166 :: u167 :: u168 :: u169 :: u170 :: u171 :: u172 :: u173 :: u174 :: u175 :: u176 :: u177 :: u178 :: u179 :: u180 :: u181 :: u182 :: u183 :: u184 :: u185 :: u186 :: u187 :: u188 :: u189 :: u190 :: u191 :: u192 :: u193 :: u194 :: u195 :: u196 :: u197 :: u198 :: u199 :: u200 :: u201 :: u202 :: u203 :: u204 :: u205 :: u206 :: u207 :: u208 :: u209 :: u210 :: u211 :: u212 :: u213 :: u214 :: u215 :: u216 :: u217 :: u218 :: u219 :: u220 :: u221 :: u222 :: u223 :: u224 :: u225 :: u226 :: u227 :: u228 :: u229 :: u230 :: u231 :: u232 :: u233 :: u234 :: u235 :: u236 :: u237 :: u238 :: []).toArray, defers := [] } : Act) w := by
  replace hK := Lib.hid hK
  have h0 : Hid (IR w w (.slice none 0 0) (A 0)) := Lib.hid (by rw [hA0]; exact IR.nil w)
  obtain ⟨a1, cap1, e1, hcap, hrd⟩ := h
  obtain ⟨rfl, rfl⟩ : p = a1 ∧ cap = cap1 := by injection e1 with x1 _ x3; exact ⟨x1, x3⟩
  replace hrd := Lib.hid hrd
  replace hn := Lib.hid hn
  replace hAy := Lib.hid hAy
  replace hAn := Lib.hid hAn
  replace hAl := Lib.hid hAl
  clear hA0 e1 hcap
  conv => arg 2; whnf
  go_wp2_with fail
  go_loopw [14, 66] (fun u i wr => ∃ k : Nat, k ≤ n ∧ i = .int .i64 (k : Int) ∧ Hid (IR w wr u (A k))) (fun _ i _ => n - (intOf i).toNat)
  case atStart => exact ⟨0, by omega, rfl, h0⟩
  case round =>
    obtain ⟨k, hk, rfl, hS⟩ := hrel
    by_cases hkn : k < n
    · have hkl : k < L.length := by have := hn.out; omega
      obtain ⟨b, off, rfl, hlt, hall⟩ := hrd.out.resolve_left (by rintro rfl; simp at hkl)
      have hbl := hS.out.bl
      have e0 := (hbl.cell (p := ⟨b, off + k * 4 + 0, none⟩) hlt).trans (hall k hkl 0 _ rfl)
      have e1 := (hbl.cell (p := ⟨b, off + k * 4 + 1, none⟩) hlt).trans (hall k hkl 1 _ rfl)
      have e2 := (hbl.cell (p := ⟨b, off + k * 4 + 2, none⟩) hlt).trans (hall k hkl 2 _ rfl)
      have e3 := (hbl.cell (p := ⟨b, off + k * 4 + 3, none⟩) hlt).trans (hall k hkl 3 _ rfl)
      rw [Nat.add_zero] at e0
      have hgl : b < wr.heap.size := Nat.lt_of_lt_of_le hlt hbl.size
      have zk : (k : Int) < (n : Int) := by omega
      have hy := hAy.out k hkl
      have hno := hAn.out k hkl
      clear hbl hall
      generalize L[k] = x at *
      by_cases hm : x.m = m
      · by_cases hc : x.c = c
        · obtain ⟨ha1, ha2, ha3⟩ := hy hm hc
          clear hno hy
          obtain ⟨y1, y2, y3, y4⟩ := x
          simp only at hm hc ha2 ha3
          subst hm hc
          have hle := hAl.out k
          obtain ⟨T, hT⟩ : ∃ T, T = A k := ⟨_, rfl⟩
          rw [← hT] at hS ha1 ha3 hle
          replace hT := Lib.hid hT
          obtain ⟨r, hr⟩ : ∃ r, r = T.length := ⟨_, rfl⟩
          have zn1 : ¬ y4 < 1 := by omega
          have hsh := orow_shape hS.out.row
          obtain ⟨pp, cc, hpv, -⟩ := hsh
          rw [← hr] at hpv
          have hnx : Hid (∀ o nq o' (v' : Value) (w' : World), w'.ownsRow 0 2 1 v' (T.length + 1) (T.map (Value.int .i64) ++ [.int .i64 y4]) → (((wr.alloc o).drewN nq).alloc o').grownBy w' u14.ownBlock → (∀ g', v'.ownBlock = some g' → u14.ownBlock = some g' ∨ wr.heap.size + 1 + 1 ≤ g') → IR w w' v' (A (k + 1))) := Lib.hid fun o nq o' v' w' h1 h2 h3 => by rw [ha1]; exact ((hS.out.alloc o).drewN nq).app h1 h2 (fun g hg => (h3 g hg).imp id (fun hh => by simpa using hh))
          have hpre := Lib.hid fun o nq o' => ((hS.out.alloc o).drewN nq).pre o'
          have hbx := Lib.hid fun o nq => box2 y4 (new_drawn wr o nq (.cells #[.int .i64 y4] 2))
          have hrl := Lib.hid hle
          by_cases h00 : r = 0
          · subst h00
            subst hpv
            replace hr := Lib.hid hr
            clear hS ha1 ha3 hle
            go_upto_region 21 with fail
            go_quiet (fail)
            go_wp2_with (at_builtin; refine wpList_app1 50 2 1 8 _ Tryz.underlying50 info2 (by rfl) (by omega) (by omega) rfl _ _ rfl rfl _ _ _ rfl (hpre.out _ _ _) ⟨wr.heap.size + 1, 0, none⟩ [.int .i64 y4] rfl rfl (hbx.out _ _) (fun u hu => by obtain rfl := List.mem_singleton.1 hu; rfl) (by have := hrl.out; omega) ?_)
            intro v' w' hr' hg' hv'
            go_wp2_with fail
            go_roundw
            case rel => exact ⟨k + 1, by omega, by go_num, Lib.hid (hnx.out _ _ _ _ _ hr' hg' hv')⟩
            case measure => simp [intOf]; omega
          · obtain ⟨q, hq⟩ : ∃ q, r = q + 1 := ⟨r - 1, by omega⟩
            have zr : ¬ (r : Int) ≤ 0 := by omega
            have zr2 : (0 : Int) < (r : Int) := by omega
            have zb0 : decide (0 < r) = true := decide_eq_true (by omega)
            have zb1 : decide ((0 : Int) < (r : Int)) = true := decide_eq_true (by omega)
            have zb2 : decide (y4 < 1) = false := by simp; omega
            have zb3 : decide (T.getD q 0 < y4) = false := by have := ha3 q (by omega); exact decide_eq_false (by omega)
            have zq : IntKind.i64.wrap ((r : Int) - 1) = (q : Int) := by rw [IntKind.wrap_i64]; omega
            have zq2 : (q : Int) < (r : Int) := by omega
            obtain ⟨g, cp, hu14, hg, hcell⟩ := hS.out.lastc (q := q) (by omega)
            have hcq := hcell q (by omega)
            have hle4 := ha3 q (by omega)
            rw [← hr] at hu14
            subst hu14
            have zle : ¬ T.getD q 0 < y4 := by omega
            generalize T.getD q 0 = tq at *
            replace hr := Lib.hid hr
            replace hq := Lib.hid hq
            clear hS ha1 ha3 hle hcell hle4 hpv
            go_upto_region 21 with fail
            go_quiet (fail)
            go_wp2_with (at_builtin; refine wpList_app1 50 2 1 8 _ Tryz.underlying50 info2 (by rfl) (by omega) (by omega) rfl _ _ rfl rfl _ _ _ rfl (hpre.out _ _ _) ⟨wr.heap.size + 1, 0, none⟩ [.int .i64 y4] rfl rfl (hbx.out _ _) (fun u hu => by obtain rfl := List.mem_singleton.1 hu; rfl) (by have := hrl.out; omega) ?_)
            intro v' w' hr' hg' hv'
            go_wp2_with fail
            go_roundw
            case rel => exact ⟨k + 1, by omega, by go_num, Lib.hid (hnx.out _ _ _ _ _ hr' hg' hv')⟩
            case measure => simp [intOf]; omega
        · have hno := Lib.hid (hno (fun e => hc e.2))
          clear hy
          have hx : Hid (∀ o, IR w (wr.alloc o) u14 (A (k + 1))) := Lib.hid fun o => by rw [hno.out]; exact hS.out.alloc o
          have zc1 : (x.c == (c : Int)) = false := by simp [hc]
          go_wp2_with fail
          go_roundw
          case rel => exact ⟨k + 1, by omega, by go_num, Lib.hid (hx.out _)⟩
          case measure => simp [intOf]; omega
      · have hno := Lib.hid (hno (fun e => hm e.1))
        clear hy
        have hx : Hid (∀ o, IR w (wr.alloc o) u14 (A (k + 1))) := Lib.hid fun o => by rw [hno.out]; exact hS.out.alloc o
        go_wp2_with fail
        go_roundw
        case rel => exact ⟨k + 1, by omega, by go_num, Lib.hid (hx.out _)⟩
        case measure => simp [intOf]; omega
    · obtain rfl : k = n := by omega
      have zk : ¬ (k : Int) < (k : Int) := by omega
      go_wp2_with fail
      exact hK.out _ _ _ _ _ _ _ _ _ _ _ _ _ _ _ _ _ _ _ _ _ _ _ _ _ _ _ _ _ _ _ _ _ _ _ _ _ _ _ _ _ _ _ hS.out
end Go.Proofs.YthocnlalahknjaaGreat.Dd
