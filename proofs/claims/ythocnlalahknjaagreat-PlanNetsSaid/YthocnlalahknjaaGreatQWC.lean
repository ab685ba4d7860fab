/- PlanWhole: the row of what a member must pay in. -/
import Derived.Test.YthocnlalahknjaaGreatQWB
namespace Go.Proofs.YthocnlalahknjaaGreat.Dd
open Go.RowKit Go.Maps
set_option linter.unusedVariables false

/-- what the law asks of the amounts of one account, due by due -/
structure Fil (L : List Du) (m c : Nat) (A : Nat → List Int) (s : Int) : Prop where
  a0 : A 0 = []
  al : ∀ k, (A k).length ≤ k
  ay : ∀ k (hk : k < L.length), L[k].m = m → L[k].c = c → A (k + 1) = A k ++ [L[k].n] ∧ 1 ≤ L[k].n ∧ ∀ q, (A k).length = q + 1 → L[k].n ≤ (A k).getD q 0
  an : ∀ k (hk : k < L.length), ¬ (L[k].m = m ∧ L[k].c = c) → A (k + 1) = A k
  amt : ∀ x ∈ A L.length, Amt x
  sum : sumL (A L.length) = s
set_option maxHeartbeats 4000000 in
set_option maxRecDepth 100000 in
theorem row_any {Q : Exit → Act → World → Prop} (p : Option Addr) (n cap m : Nat) (L : List Du) (pr : Option Addr) (k cr : Nat) (row : List Int) (A : Nat → Nat → List Int) (w : World)
    (h : USeq w (.slice p n cap) L) (hn : n = L.length) (hlen : n ≤ 4096) (hs : Seq64 w pr k row) (hk8 : k ≤ 8) (hx : ∀ c, c < k → -9223372036854775808 < row.getD c 0)
    (hF : ∀ c, c < k → Fil L m c (A c) (max (-(row.getD c 0)) 0))
    (u0 u1 u2 u3 u4 u5 u6 u8 u9 u12 u13 u14 u15 u16 u17 u18 u19 u20 u21 u22 u23 u24 u25 u26 u27 u28 u29 u30 u31 u32 u33 u34 u35 u36 u37 u38 u39 u40 u41 u42 u43 u44 u45 u46 u47 u48 u49 u50 u51 u52 u53 u54 u55 u56 u60 u61 u62 u63 u64 u65 u66 u67 u68 u69 u70 u71 u72 u73 u74 u75 u76 u77 u78 u79 u80 u81 u82 u83 u84 u85 u86 u87 u88 u89 u90 u91 u92 u93 u94 u95 u96 u97 u98 u99 u100 u101 u102 u103 u104 u105 u106 u107 u108 u109 u110 u111 u112 u113 u114 u115 u116 u117 u118 u119 u120 u121 u122 u123 u124 u125 u126 u127 u128 u129 u130 u131 u132 u133 u134 u135 u136 u137 u138 u139 u140 u141 u142 u143 u144 u145 u146 u147 u148 u149 u150 u151 u152 u153 u154 u155 u156 u157 u158 u159 u160 u161 u162 u163 u164 u165 u166 u167 u168 u169 u170 u171 u172 u173 u174 u175 u176 u177 u178 u179 u180 u181 u182 u183 u184 u185 u186 u187 u188 u189 u190 u191 u192 u193 u194 u195 u196 u197 u198 u199 u200 u201 u202 u203 u204 u205 u206 u207 u208 u209 u210 u211 u212 u213 u214 u215 u216 u217 u218 u219 u220 u221 u222 u223 u224 u225 u226 u227 u228 u229 u230 u231 u232 u233 u234 u235 u236 u237 u238 : Value)
    (hK : ∀ (v6 v11 v12 v13 v14 v16 v17 v18 v59 v60 v61 v62 v63 v64 v65 v66 v67 v68 v69 v70 v71 v72 v73 v74 v75 v76 v77 v78 v79 v80 v81 v82 v83 v84 v85 v86 v87 v88 v89 v90 v91 v92 v93 v94 v95 v96 v97 v98 v99 v100 v101 v102 v103 v104 v105 v106 v107 v108 v109 v110 v111 v112 v113 v114 v115 v116 v117 v118 v119 v120 v121 v122 v123 : Value)  (W9 : World), IR w W9 v11 ((List.range k).map fun c => max (-(row.getD c 0)) 0) → Q .normal ({ tmps := (u0 :: u1 :: u2 :: u3 :: u4 :: u5 :: v6 :: Value.slice p n cap :: u8 :: u9 :: Value.int .i64 (m : Int) :: v11 :: v12 :: v13 :: v14 :: u15 :: v16 :: v17 :: v18 :: u19 :: u20 :: u21 :: u22 :: u23 :: u24 :: u25 :: u26 :: u27 :: u28 :: u29 :: u30 :: u31 :: u32 :: u33 :: u34 :: u35 :: u36 :: u37 :: u38 :: u39 :: u40 :: u41 :: u42 :: u43 :: u44 :: u45 :: u46 :: u47 :: u48 :: u49 :: u50 :: u51 :: u52 :: u53 :: u54 :: u55 :: u56 :: Value.slice pr k cr :: Value.int .i64 (k : Int) :: v59 :: v60 :: v61 :: v62 :: v63 :: v64 :: v65 :: v66 :: v67 :: v68 :: v69 :: v70 :: v71 :: v72 :: v73 :: v74 :: v75 :: v76 :: v77 :: v78 :: v79 :: v80 :: v81 :: v82 :: v83 :: v84 :: v85 :: v86 :: v87 :: v88 :: v89 :: v90 :: v91 :: v92 :: v93 :: v94 :: v95 :: v96 :: v97 :: v98 :: v99 :: v100 :: v101 :: v102 :: v103 :: v104 :: v105 :: v106 :: v107 :: v108 :: v109 :: v110 :: v111 :: v112 :: v113 :: v114 :: v115 :: v116 :: v117 :: v118 :: v119 :: v120 :: v121 :: v122 :: v123 :: u124 :: u125 :: u126 :: u127 :: u128 :: u129 :: u130 :: u131 :: u132 :: u133 :: u134 :: u135 :: u136 :: u137 :: u138 :: u139 :: u140 :: u141 :: u142 :: u143 :: u144 :: u145 :: u146 :: u147 :: u148 :: u149 :: u150 :: u151 :: u152 :: u153 :: u154 :: u155 :: u156 :: u157 :: u158 :: u159 :: u160 :: u161 :: u162 :: u163 :: u164 :: u165 :: u166 :: u167 :: u168 :: u169 :: u170 :: u171 :: u172 :: u173 :: u174 :: u175 :: u176 :: u177 :: u178 :: u179 :: u180 :: u181 :: u182 :: u183 :: u184 :: u185 :: u186 :: u187 :: u188 :: u189 :: u190 :: u191 :: u192 :: u193 :: u194 :: u195 :: u196 :: u197 :: u198 :: u199 :: u200 :: u201 :: u202 :: u203 :: u204 :: u205 :: u206 :: u207 :: u208 :: u209 :: u210 :: u211 :: u212 :: u213 :: u214 :: u215 :: u216 :: u217 :: u218 :: u219 :: u220 :: u221 :: u222 :: u223 :: u224 :: u225 :: u226 :: u227 :: u228 :: u229 :: u230 :: u231 :: u232 :: u233 :: u234 :: u235 :: u236 :: u237 :: u238 :: []).toArray, defers := [] } : Act) W9) :
    Code.wp Tryz.prog cw2 Q ({ tmps := (u0 :: u1 :: u2 :: u3 :: u4 :: u5 :: u6 :: Value.slice p n cap :: u8 :: u9 :: Value.int .i64 (m : Int) :: Value.slice none 0 0 :: u12 :: u13 :: u14 :: u15 :: u16 :: u17 :: u18 :: u19 :: u20 :: u21 :: u22 :: u23 :: u24 :: u25 :: u26 :: u27 :: u28 :: u29 :: u30 :: u31 :: u32 :: u33 :: u34 :: u35 :: u36 :: u37 :: u38 :: u39 :: u40 :: u41 :: u42 :: u43 :: u44 :: u45 :: u46 :: u47 :: u48 :: u49 :: u50 :: u51 :: u52 :: u53 :: u54 :: u55 :: u56 :: Value.slice pr k cr :: Value.int .i64 (k : Int) :: Value.int .i64 0 :: u60 :: u61 :: u62 :: u63 :: u64 :: u65 :: u66 :: u67 :: u68 :: u69 :: u70 :: u71 :: u72 :: u73 :: u74 :: u75 :: u76 :: u77 :: u78 :: u79 :: u80 :: u81 :: u82 :: u83 :: u84 :: u85 :: u86 :: u87 :: u88 :: u89 :: u90 :: u91 :: u92 :: u93 :: u94 :: u95 :: u96 :: u97 :: u98 :: u99 :: u100 :: u101 :: u102 :: u103 :: u104 :: u105 :: u106 :: u107 :: u108 :: u109 :: u110 :: u111 :: u112 :: u113 :: u114 :: u115 :: u116 :: u117 :: u118 :: u119 :: u120 :: u121 :: u122 :: u123 :: u124 :: u125 :: u126 :: u127 :: u128 :: u129 :: u130 :: u131 :: u132 :: u133 :: u134 :: u135 :: u136 :: u137 :: u138 :: u139 :: u140 :: u141 :: u142 :: u143 :: u144 :: u145 :: u146 :: u147 :: u148 :: u149 :: u150 :: u151 :: u152 :: u153 :: u154 :: u155 :: u156 :: u157 :: u158 :: u159 :: u160 :: u161 :: u162 :: u163 :: u164 :: u165 :: u166 :: u167 :: u168 :: u169 :: u170 :: u171 :: u172 :: u173 :: u174 :: u175 :: u176 :: u177 :: u178 :: u179 :: u180 :: u181 :: u182 :: u183 :: u184 :: u185 :: u186 :: u187 :: u188 :: u189 :: u190 :: u191 :: u192 :: u193 :: u194 :: u195 :: u196 :: u197 :: u198 :: u199 :: u200 :: u201 :: u202 :: u203 :: u204 :: u205 :: u206 :: u207 :: u208 :: u209 :: u210 :: u211 :: u212 :: u213 :: u214 :: u215 :: u216 :: u217 :: u218 :: u219 :: u220 :: u221 :: u222 :: u223 :: u224 :: u225 :: u226 :: u227 :: u228 :: u229 :: u230 :: u231 :: u232 :: u233 :: u234 :: u235 :: u236 :: u237 :: u238 :: []).toArray, defers := [] } : Act) w := by
  replace hK := Lib.hid hK
  have h0 : Hid (IR w w (.slice none 0 0) ((List.range 0).map fun c => max (-(row.getD c 0)) 0)) := Lib.hid (IR.nil w)
  replace h := Lib.hid h
  replace hs := Lib.hid hs
  replace hn := Lib.hid hn
  replace hx := Lib.hid hx
  replace hF := Lib.hid hF
  conv => arg 2; whnf
  go_wp2_with fail
  go_loopw [11, 59] (fun u i wr => ∃ c : Nat, c ≤ k ∧ i = .int .i64 (c : Int) ∧ Hid (IR w wr u ((List.range c).map fun c => max (-(row.getD c 0)) 0))) (fun _ i _ => k - (intOf i).toNat)
  case atStart => exact ⟨0, by omega, rfl, h0⟩
  case round =>
    obtain ⟨c, hc, rfl, hS⟩ := hrel
    by_cases hck : c < k
    · have zc : (c : Int) < (k : Int) := by omega
      have hFc := hF.out c hck
      have hxc := hx.out c hck
      have hsw := hs.out
      obtain ⟨hrl, hz, -, hcs⟩ := hsw
      obtain ⟨b2, off2, rfl, hlt2, hall2⟩ := hcs.resolve_left (by omega)
      have hxa := hz c
      have hcell := (hS.out.bl.cell (p := ⟨b2, off2 + c, none⟩) hlt2).trans (hall2 c hck)
      have hl2 : b2 < wr.heap.size := Nat.lt_of_lt_of_le hlt2 hS.out.bl.size
      have hsucc : (List.range (c + 1)).map (fun c => max (-(row.getD c 0)) 0) = ((List.range c).map fun c => max (-(row.getD c 0)) 0) ++ [max (-(row.getD c 0)) 0] := by rw [List.range_succ, List.map_append]; rfl
      obtain ⟨T, hT⟩ : ∃ T, T = (List.range c).map fun c => max (-(row.getD c 0)) 0 := ⟨_, rfl⟩
      have hTl : T.length ≤ 8 := by rw [hT]; simp; omega
      rw [← hT] at hS hsucc
      replace hT := Lib.hid hT
      generalize row.getD c 0 = x at *
      have hUw := Lib.hid (h.out.kept hS.out.bl)
      replace hsucc := Lib.hid hsucc
      replace hxa := Lib.hid hxa
      replace hFc := Lib.hid hFc
      clear hall2 hcs hz
      go_upto_block 4 with fail
      refine fil_any p n cap m c L (A c) wr hUw.out hn.out hlen hFc.out.a0 hFc.out.al hFc.out.ay hFc.out.an _ _ _ _ _ _ _ _ _ _ _ _ _ _ _ _ _ _ _ _ _ _ _ _ _ _ _ _ _ _ _ _ _ _ _ _ _ _ _ _ _ _ _ _ _ _ _ _ _ _ _ _ _ _ _ _ _ _ _ _ _ _ _ _ _ _ _ _ _ _ _ _ _ _ _ _ _ _ _ _ _ _ _ _ _ _ _ _ _ _ _ _ _ _ _ _ _ _ _ _ _ _ _ _ _ _ _ _ _ _ _ _ _ _ _ _ _ _ _ _ _ _ _ _ _ _ _ _ _ _ _ _ _ _ _ _ _ _ _ _ _ _ _ _ _ _ _ _ _ _ _ _ _ _ _ _ _ _ _ _ _ _ _ _ _ _ _ _ _ _ _ _ _ _ _ _ _ _ _ _ _ _ _ _ _ _ _ _ _ _ _ _ _ _ _ _ _ _ _ _ _ _ _ _ _ _ _ _ _ _ _ _ _ _ _ _ _ _ _ _ _ _ _ _ _ _ _ _ _ _ _ _ _ ?_
      intro v6 v14 v16 v66 v67 v68 v69 v70 v71 v72 v73 v74 v75 v76 v77 v78 v79 v80 v81 v82 v83 v84 v85 v86 v87 v88 v89 v90 v91 v92 v93 v94 v95 v96 v97 v98 v99 v100 v101 v102 v103 v104 W9 hI
      have hb9 := hI.bl
      obtain ⟨pp, cc, hpv, -, -, -⟩ := orow_shape hI.row
      have hrow := hI.row
      rw [hpv] at hrow
      have hAl : (A c n).length ≤ 4096 := by have := hFc.out.al n; omega
      have hsq := orow_seq hrow rfl (by rw [hn.out]; exact hFc.out.amt) (by omega)
      have hsum := sum_any pp _ cc _ W9 hsq
      have hsm : sumL (A c n) = max (-x) 0 := by rw [hn.out]; exact hFc.out.sum
      have hxb := hxa.out
      unfold Amt at hxb
      have f0 : fitV (max (-x) 0) = max (-x) 0 := by unfold fitV; rw [if_pos (by omega)]
      have f1 : fitE (max (-x) 0) = 0 := by unfold fitE; rw [if_pos (by omega)]
      rw [hsm, f0, f1] at hsum
      subst hpv
      obtain ⟨r, hr⟩ : ∃ r, r = (A c n).length := ⟨_, rfl⟩
      rw [← hr] at hsum ⊢
      replace hr := Lib.hid hr
      have hS9 := Lib.hid (hS.out.below hb9)
      clear hrow hsq f0 f1 hsm hI hS
      replace hsum := Lib.hid hsum
      have zneg : IntKind.i64.wrap (-x) = -x := by rw [IntKind.wrap_i64]; omega
      have hsy := hsum
      clear hsum
      have hnx : Hid (∀ (W : World) (hb : Below W9.heap.size W9 W) (o : Obj) (v' : Value) (w' : World), w'.ownsRow 0 2 1 v' (T.length + 1) (T.map (Value.int .i64) ++ [.int .i64 (max (-x) 0)]) → (W.alloc o).grownBy w' u11.ownBlock → (∀ g', v'.ownBlock = some g' → u11.ownBlock = some g' ∨ W.heap.size + 1 ≤ g') → IR w w' v' (T ++ [max (-x) 0])) := Lib.hid fun W hb o v' w' h1 h2 h3 => (hS9.out.below hb).app h1 h2 h3
      have hpre := Lib.hid fun (W : World) (hb : Below W9.heap.size W9 W) o => (hS9.out.below hb).pre o
      have hbx := Lib.hid fun (W : World) => box2 (max (-x) 0) (heap_alloc_new W (.cells #[.int .i64 (max (-x) 0)] 2))
      go_wp2_with (first
        | (go_at_call 19; (with_reducible refine hsy.out.mono ?_); rintro e w5 ⟨rfl, hb5⟩; replace hb5 := Lib.hid hb5)
        | (at_builtin; refine wpList_app1 50 2 1 8 _ Tryz.underlying50 info2 (by rfl) (by omega) (by omega) rfl _ _ rfl rfl _ _ _ rfl (hpre.out w5 hb5.out _) ⟨w5.heap.size, 0, none⟩ [.int .i64 (max (-x) 0)] rfl rfl (hbx.out w5) (fun u hu => by obtain rfl := List.mem_singleton.1 hu; rfl) (by omega) ?_))
      intro v' w' hr' hg' hv'
      go_wp2_with fail
      go_roundw
      case rel => exact ⟨c + 1, by omega, by go_num, Lib.hid (by rw [hsucc.out]; exact hnx.out _ hb5.out _ _ _ hr' hg' hv')⟩
      case measure => simp [intOf]; omega
    · obtain rfl : c = k := by omega
      have zk : ¬ (c : Int) < (c : Int) := by omega
      go_wp2_with fail
      exact hK.out _ _ _ _ _ _ _ _ _ _ _ _ _ _ _ _ _ _ _ _ _ _ _ _ _ _ _ _ _ _ _ _ _ _ _ _ _ _ _ _ _ _ _ _ _ _ _ _ _ _ _ _ _ _ _ _ _ _ _ _ _ _ _ _ _ _ _ _ _ _ _ _ _ _ hS.out
end Go.Proofs.YthocnlalahknjaaGreat.Dd
