/- PlanWhole: the row of what a member must pay in.
  Rows of rows, each new and apart from all others. -/
import Derived.Test.YthocnlalahknjaaGreatQWab
namespace Go.Proofs.YthocnlalahknjaaGreat.Dd
open Go.RowKit Go.Maps
set_option linter.unusedVariables false

/-- what the law asks of the amounts of one account, due by due -/
structure Fil (L : List Du) (m c : Nat) (A : Nat → List Int) (s : Int) : Prop where
  a0 : A 0 = []
  al : ∀ k, (A k).length ≤ k
  ay : ∀ k (hk : k < L.length), L[k].m = m → L[k].c = c → A (k + 1) = A k ++ [L[k].n] ∧ 1 ≤ L[k].n ∧ ∀ q, (A k).length = q + 1 → L[k].n ≤ (A k).getD q 0
  an : ∀ k (hk : k < L.length), ¬ (L[k].m = m ∧ L[k].c = c) → A (k + 1) = A k
  amt : ∀ x ∈ A L.length, Amt x
  sum : sumL (A L.length) = s
set_option maxHeartbeats 4000000 in
set_option maxRecDepth 100000 in
theorem row_any {Q : Exit → Act → World → Prop} (p : Option Addr) (n cap m : Nat) (L : List Du) (pr : Option Addr) (k cr : Nat) (row : List Int) (A : Nat → Nat → List Int) (w : World)
    (h : USeq w (.slice p n cap) L) (hn : n = L.length) (hlen : n ≤ 4096) (hs : Seq64 w pr k row) (hk8 : k ≤ 8) (hx : ∀ c, c < k → -9223372036854775808 < row.getD c 0)
    (hF : ∀ c, c < k → Fil L m c (A c) (max (-(row.getD c 0)) 0))
    (u0 u1 u2 u3 u4 u5 u6 u8 u9 u12 u13 u14 u15 u16 u17 u18 u19 u20 u21 u22 u23 u24 u25 u26 u27 u28 u29 u30 u31 u32 u33 u34 u35 u36 u37 u38 u39 u40 u41 u42 u43 u44 u45 u46 u47 u48 u49 u50 u51 u52 u53 u54 u55 u56 u60 u61 u62 u63 u64 u65 u66 u67 u68 u69 u70 u71 u72 u73 u74 u75 u76 u77 u78 u79 u80 u81 u82 u83 u84 u85 u86 u87 u88 u89 u90 u91 u92 u93 u94 u95 u96 u97 u98 u99 u100 u101 u102 u103 u104 u105 u106 u107 u108 u109 u110 u111 u112 u113 u114 u115 u116 u117 u118 u119 u120 u121 u122 u123 u124 u125 u126 u127 u128 u129 u130 u131 u132 u133 u134 u135 u136 u137 u138 u139 u140 u141 u142 u143 u144 u145 u146 u147 u148 u149 u150 u151 u152 u153 u154 u155 u156 u157 u158 u159 u160 u161 u162 u163 u164 u165 u166 u167 u168 u169 u170 u171 u172 u173 u174 u175 u176 u177 u178 u179 u180 u181 u182 u183 u184 u185 u186 u187 u188 u189 u190 u191 u192 u193 u194 u195 u196 u197 u198 u199 u200 u201 u202 u203 u204 u205 u206 u207 u208 u209 u210 u211 u212 u213 u214 u215 u216 u217 u218 u219 u220 u221 u222 u223 u224 u225 u226 u227 u228 u229 u230 u231 u232 u233 u234 u235 u236 u237 u238 : Value)
    (hK : ∀ (v6 v11 v12 v13 v14 v16 v17 v18 v59 v60 v61 v62 v63 v64 v65 v66 v67 v68 v69 v70 v71 v72 v73 v74 v75 v76 v77 v78 v79 v80 v81 v82 v83 v84 v85 v86 v87 v88 v89 v90 v91 v92 v93 v94 v95 v96 v97 v98 v99 v100 v101 v102 v103 v104 v105 v106 v107 v108 v109 v110 v111 v112 v113 v114 v115 v116 v117 v118 v119 v120 v121 v122 v123 : Value)  (W9 : World), IR w W9 v11 ((List.range k).map fun c => max (-(row.getD c 0)) 0) → Q .normal ({ tmps := (u0 :: u1 :: u2 :: u3 :: u4 :: u5 :: v6 :: Value.slice p n cap :: u8 :: u9 :: Value.int .i64 (m : Int) :: v11 :: v12 :: v13 :: v14 :: u15 :: v16 :: v17 :: v18 :: u19 :: u20 :: u21 :: u22 :: u23 :: u24 :: u25 :: u26 :: u27 :: u28 :: u29 :: u30 :: u31 :: u32 :: u33 :: u34 :: u35 :: u36 :: u37 :: u38 :: u39 :: u40 :: u41 :: u42 :: u43 :: u44 :: u45 :: u46 :: u47 :: u48 :: u49 :: u50 :: u51 :: u52 :: u53 :: u54 :: u55 :: u56 :: Value.slice pr k cr :: Value.int .i64 (k : Int) :: v59 :: v60 :: v61 :: v62 :: v63 :: v64 :: v65 :: v66 :: v67 :: v68 :: v69 :: v70 :: v71 :: v72 :: v73 :: v74 :: v75 :: v76 :: v77 :: v78 :: v79 :: v80 :: v81 :: v82 :: v83 :: v84 :: v85 :: v86 :: v87 :: v88 :: v89 :: v90 :: v91 :: v92 :: v93 :: v94 :: v95 :: v96 :: v97 :: v98 :: v99 :: v100 :: v101 :: v102 :: v103 :: v104 :: v105 :: v106 :: v107 :: v108 :: v109 :: v110 :: v111 :: v112 :: v113 :: v114 :: v115 :: v116 :: v117 :: v118 :: v119 :: v120 :: v121 :: v122 :: v123 :: u124 :: u125 :: u126 :: u127 :: u128 :: u129 :: u130 :: u131 :: u132 :: u133 :: u134 :: u135 :: u136 :: u137 :: u138 :: u139 :: u140 :: u141 :: u142 :: u143 :: u144 :: u145 :: u146 :: u147 :: u148 :: u149 :: u150 :: u151 :: u152 :: u153 :: u154 :: u155 :: u156 :: u157 :: u158 :: u159 :: u160 :: u161 :: u162 :: u163 :: u164 :: u165 :: u166 :: u167 :: u168 :: u169 :: u170 :: u171 :: u172 :: u173 :: u174 :: u175 :: u176 :: u177 :: u178 :: u179 :: u180 :: u181 :: u182 :: u183 :: u184 :: u185 :: u186 :: u187 :: u188 :: u189 :: u190 :: u191 :: u192 :: u193 :: u194 :: u195 :: u196 :: u197 :: u198 :: u199 :: u200 :: u201 :: u202 :: u203 :: u204 :: u205 :: u206 :: u207 :: u208 :: u209 :: u210 :: u211 :: u212 :: u213 :: u214 :: u215 :: u216 :: u217 :: u218 :: u219 :: u220 :: u221 :: u222 :: u223 :: u224 :: u225 :: u226 :: u227 :: u228 :: u229 :: u230 :: u231 :: u232 :: u233 :: u234 :: u235 :: u236 :: u237 :: u238 :: []).toArray, defers := [] } : Act) W9) :
    Code.wp Tryz.prog cw2 Q ({ tmps := (u0 :: u1 :: u2 :: u3 :: u4 :: u5 :: u6 :: Value.slice p n cap :: u8 :: u9 :: Value.int .i64 (m : Int) :: Value.slice none 0 0 :: u12 :: u13 :: u14 :: u15 :: u16 :: u17 :: u18 :: u19 :: u20 :: u21 :: u22 :: u23 :: u24 :: u25 :: u26 :: u27 :: u28 :: u29 :: u30 :: u31 :: u32 :: u33 :: u34 :: u35 :: u36 :: u37 :: u38 :: u39 :: u40 :: u41 :: u42 :: u43 :: u44 :: u45 :: u46 :: u47 :: u48 :: u49 :: u50 :: u51 :: u52 :: u53 :: u54 :: u55 :: u56 :: Value.slice pr k cr :: Value.int .i64 (k : Int) :: Value.int .i64 0 :: u60 :: u61 :: u62 :: u63 :: u64 :: u65 :: u66 :: u67 :: u68 :: u69 :: u70 :: u71 :: u72 :: u73 :: u74 :: u75 :: u76 :: u77 :: u78 :: u79 :: u80 :: u81 :: u82 :: u83 :: u84 :: u85 :: u86 :: u87 :: u88 :: u89 :: u90 :: u91 :: u92 :: u93 :: u94 :: u95 :: u96 :: u97 :: u98 :: u99 :: u100 :: u101 :: u102 :: u103 :: u104 :: u105 :: u106 :: u107 :: u108 :: u109 :: u110 :: u111 :: u112 :: u113 :: u114 :: u115 :: u116 :: u117 :: u118 :: u119 :: u120 :: u121 :: u122 :: u123 :: u124 :: u125 :: u126 :: u127 :: u128 :: u129 :: u130 :: u131 :: u132 :: u133 :: u134 :: u135 :: u136 :: u137 :: u138 :: u139 :: u140 :: u141 :: u142 :: u143 :: u144 :: u145 :: u146 :: u147 :: u148 :: u149 :: u150 :: u151 :: u152 :: u153 :: u154 :: u155 :: u156 :: u157 :: u158 :: u159 :: u160 :: u161 :: u162 :: u163 :: u164 :: u165 :: u166 :: u167 :: u168 :: u169 :: u170 :: u171 :: u172 :: u173 :: u174 :: u175 :: u176 :: u177 :: u178 :: u179 :: u180 :: u181 :: u182 :: u183 :: u184 :: u185 :: u186 :: u187 :: u188 :: u189 :: u190 :: u191 :: u192 :: u193 :: u194 :: u195 :: u196 :: u197 :: u198 :: u199 :: u200 :: u201 :: u202 :: u203 :: u204 :: u205 :: u206 :: u207 :: u208 :: u209 :: u210 :: u211 :: u212 :: u213 :: u214 :: u215 :: u216 :: u217 :: u218 :: u219 :: u220 :: u221 :: u222 :: u223 :: u224 :: u225 :: u226 :: u227 :: u228 :: u229 :: u230 :: u231 :: u232 :: u233 :: u234 :: u235 :: u236 :: u237 :: u238 :: []).toArray, defers := [] } : Act) w := by
  replace hK := Lib.hid hK
  have h0 : Hid (IR w w (.slice none 0 0) ((List.range 0).map fun c => max (-(row.getD c 0)) 0)) := Lib.hid (IR.nil w)
  replace h := Lib.hid h
  replace hs := Lib.hid hs
  replace hn := Lib.hid hn
  replace hx := Lib.hid hx
  replace hF := Lib.hid hF
  conv => arg 2; whnf
  go_wp2_with fail
  go_loopw [11, 59] (fun u i wr => ∃ c : Nat, c ≤ k ∧ i = .int .i64 (c : Int) ∧ Hid (IR w wr u ((List.range c).map fun c => max (-(row.getD c 0)) 0))) (fun _ i _ => k - (intOf i).toNat)
  case atStart => exact ⟨0, by omega, rfl, h0⟩
  case round =>
    obtain ⟨c, hc, rfl, hS⟩ := hrel
    by_cases hck : c < k
    · have zc : (c : Int) < (k : Int) := by omega
      have hFc := hF.out c hck
      have hxc := hx.out c hck
      have hsw := hs.out
      obtain ⟨hrl, hz, -, hcs⟩ := hsw
      obtain ⟨b2, off2, rfl, hlt2, hall2⟩ := hcs.resolve_left (by omega)
      have hxa := hz c
      have hcell := (hS.out.bl.cell (p := ⟨b2, off2 + c, none⟩) hlt2).trans (hall2 c hck)
      have hl2 : b2 < wr.heap.size := Nat.lt_of_lt_of_le hlt2 hS.out.bl.size
      have hsucc : (List.range (c + 1)).map (fun c => max (-(row.getD c 0)) 0) = ((List.range c).map fun c => max (-(row.getD c 0)) 0) ++ [max (-(row.getD c 0)) 0] := by rw [List.range_succ, List.map_append]; rfl
      obtain ⟨T, hT⟩ : ∃ T, T = (List.range c).map fun c => max (-(row.getD c 0)) 0 := ⟨_, rfl⟩
      have hTl : T.length ≤ 8 := by rw [hT]; simp; omega
      rw [← hT] at hS hsucc
      replace hT := Lib.hid hT
      generalize row.getD c 0 = x at *
      have hUw := Lib.hid (h.out.kept hS.out.bl)
      replace hsucc := Lib.hid hsucc
      replace hxa := Lib.hid hxa
      replace hFc := Lib.hid hFc
      clear hall2 hcs hz
      go_upto_block 4 with fail
      refine fil_any p n cap m c L (A c) wr hUw.out hn.out hlen hFc.out.a0 hFc.out.al hFc.out.ay hFc.out.an _ _ _ _ _ _ _ _ _ _ _ _ _ _ _ _ _ _ _ _ _ _ _ _ _ _ _ _ _ _ _ _ _ _ _ _ _ _ _ _ _ _ _ _ _ _ _ _ _ _ _ _ _ _ _ _ _ _ _ _ _ _ _ _ _ _ _ _ _ _ _ _ _ _ _ _ _ _ _ _ _ _ _ _ _ _ _ _ _ _ _ _ _ _ _ _ _ _ _ _ _ _ _ _ _ _ _ _ _ _ _ _ _ _ _ _ _ _ _ _ _ _ _ _ _ _ _ _ _ _ _ _ _ _ _ _ _ _ _ _ _ _ _ _ _ _ _ _ _ _ _ _ _ _ _ _ _ _ _ _ _ _ _ _ _ _ _ _ _ _ _ _ _ _ _ _ _ _ _ _ _ _ _ _ _ _ _ _ _ _ _ _ _ _ _ _ _ _ _ _ _ _ _ _ _ _ _ _ _ _ _ _ _ _ _ _ _ _ _ _ _ _ _ _ _ _ _ _ _ _ _ _ _ ?_
      intro v6 v14 v16 v66 v67 v68 v69 v70 v71 v72 v73 v74 v75 v76 v77 v78 v79 v80 v81 v82 v83 v84 v85 v86 v87 v88 v89 v90 v91 v92 v93 v94 v95 v96 v97 v98 v99 v100 v101 v102 v103 v104 W9 hI
      have hb9 := hI.bl
      obtain ⟨pp, cc, hpv, -, -, -⟩ := orow_shape hI.row
      have hrow := hI.row
      rw [hpv] at hrow
      have hAl : (A c n).length ≤ 4096 := by have := hFc.out.al n; omega
      have hsq := orow_seq hrow rfl (by rw [hn.out]; exact hFc.out.amt) (by omega)
      have hsum := sum_any pp _ cc _ W9 hsq
      have hsm : sumL (A c n) = max (-x) 0 := by rw [hn.out]; exact hFc.out.sum
      have hxb := hxa.out
      unfold Amt at hxb
      have f0 : fitV (max (-x) 0) = max (-x) 0 := by unfold fitV; rw [if_pos (by omega)]
      have f1 : fitE (max (-x) 0) = 0 := by unfold fitE; rw [if_pos (by omega)]
      rw [hsm, f0, f1] at hsum
      subst hpv
      obtain ⟨r, hr⟩ : ∃ r, r = (A c n).length := ⟨_, rfl⟩
      rw [← hr] at hsum ⊢
      replace hr := Lib.hid hr
      have hS9 := Lib.hid (hS.out.below hb9)
      clear hrow hsq f0 f1 hsm hI hS
      replace hsum := Lib.hid hsum
      have zneg : IntKind.i64.wrap (-x) = -x := by rw [IntKind.wrap_i64]; omega
      have hsy := hsum
      clear hsum
      have hnx : Hid (∀ (W : World) (hb : Below W9.heap.size W9 W) (o : Obj) (v' : Value) (w' : World), w'.ownsRow 0 2 1 v' (T.length + 1) (T.map (Value.int .i64) ++ [.int .i64 (max (-x) 0)]) → (W.alloc o).grownBy w' u11.ownBlock → (∀ g', v'.ownBlock = some g' → u11.ownBlock = some g' ∨ W.heap.size + 1 ≤ g') → IR w w' v' (T ++ [max (-x) 0])) := Lib.hid fun W hb o v' w' h1 h2 h3 => (hS9.out.below hb).app h1 h2 h3
      have hpre := Lib.hid fun (W : World) (hb : Below W9.heap.size W9 W) o => (hS9.out.below hb).pre o
      have hbx := Lib.hid fun (W : World) => box2 (max (-x) 0) (heap_alloc_new W (.cells #[.int .i64 (max (-x) 0)] 2))
      go_wp2_with (first
        | (go_at_call 19; (with_reducible refine hsy.out.mono ?_); rintro e w5 ⟨rfl, hb5⟩; replace hb5 := Lib.hid hb5)
        | (at_builtin; refine wpList_app1 50 2 1 8 _ Tryz.underlying50 info2 (by rfl) (by omega) (by omega) rfl _ _ rfl rfl _ _ _ rfl (hpre.out w5 hb5.out _) ⟨w5.heap.size, 0, none⟩ [.int .i64 (max (-x) 0)] rfl rfl (hbx.out w5) (fun u hu => by obtain rfl := List.mem_singleton.1 hu; rfl) (by omega) ?_))
      intro v' w' hr' hg' hv'
      go_wp2_with fail
      go_roundw
      case rel => exact ⟨c + 1, by omega, by go_num, Lib.hid (by rw [hsucc.out]; exact hnx.out _ hb5.out _ _ _ hr' hg' hv')⟩
      case measure => simp [intOf]; omega
    · obtain rfl : c = k := by omega
      have zk : ¬ (c : Int) < (c : Int) := by omega
      go_wp2_with fail
      exact hK.out _ _ _ _ _ _ _ _ _ _ _ _ _ _ _ _ _ _ _ _ _ _ _ _ _ _ _ _ _ _ _ _ _ _ _ _ _ _ _ _ _ _ _ _ _ _ _ _ _ _ _ _ _ _ _ _ _ _ _ _ _ _ _ _ _ _ _ _ _ _ _ _ _ _ hS.out
end Go.Proofs.YthocnlalahknjaaGreat.Dd
namespace Go.Proofs.YthocnlalahknjaaGreat.Dd
open Go.RowKit Go.Maps
set_option linter.unusedVariables false

/-- rows of amounts, new since w, all in blocks of their own -/
structure PR (w wr : World) (u : Value) (rows : List (List Int)) : Prop where
  ex : ∃ vs : List Value, vs.length = rows.length ∧ wr.ownsRow 0 50 1 u rows.length vs ∧ (∀ i (h : i < rows.length) v, vs[i]? = some v → IR w wr v rows[i] ∧ ∀ g, v.ownBlock = some g → u.ownBlock ≠ some g) ∧
    ∀ (i j : Nat) (v v' : Value), i < j → vs[i]? = some v → vs[j]? = some v' → ∀ g, v.ownBlock = some g → v'.ownBlock ≠ some g
  own : ∀ g, u.ownBlock = some g → w.heap.size ≤ g
  bl : Below w.heap.size w wr
theorem PR.nil (w : World) : PR w w (.slice none 0 0) [] := ⟨⟨[], rfl, World.ownsRow_nil _ _ _ _, (fun i h => by simp at h), fun i j v v' _ h => by simp at h⟩, (fun g hg => by simp [Value.ownBlock] at hg), Below.refl _ _⟩
theorem PR.below {w wr w' : World} {u : Value} {rows : List (List Int)} (h : PR w wr u rows) (hb : Below wr.heap.size wr w') : PR w w' u rows := by
  obtain ⟨⟨vs, h1, h2, h3, h4⟩, ho, hbl⟩ := h
  exact ⟨⟨vs, h1, orow_kept h2 fun g hg => hb.block g (World.ownsRow.lt h2 g hg).2, fun i hi v hv => ⟨(h3 i hi v hv).1.below hb, (h3 i hi v hv).2⟩, h4⟩, ho, hbl.trans (hb.mono hbl.size)⟩
/-- the cells of the outer row, with one that is made ahead of an append -/
theorem PR.pre {w wr W1 : World} {u : Value} {rows : List (List Int)} (h : PR w wr u rows) (hb : Below wr.heap.size wr W1) (o : Obj) : ∃ vs, (W1.alloc o).ownsRow 0 50 1 u rows.length vs ∧
    ∀ (v : Value) (row : List Int) (v' : Value) (w' : World), IR wr W1 v row → w'.ownsRow 0 50 1 v' (rows.length + 1) (vs ++ [v]) → (W1.alloc o).grownBy w' u.ownBlock → (∀ g', v'.ownBlock = some g' → u.ownBlock = some g' ∨ W1.heap.size + 1 ≤ g') → PR w w' v' (rows ++ [row]) := by
  obtain ⟨⟨vs, e1, e2, e3, e4⟩, ho, hbl⟩ := h
  have hb2 : Below wr.heap.size wr (W1.alloc o) := hb.alloc hb.size o
  have k2 : (W1.alloc o).ownsRow 0 50 1 u rows.length vs := orow_kept e2 fun g hg => hb2.block g (World.ownsRow.lt e2 g hg).2
  refine ⟨vs, k2, fun v row v' w' hI h1 h2 h3 => ?_⟩
  have hIo : ∀ g, v.ownBlock = some g → wr.heap.size ≤ g ∧ g < W1.heap.size := fun g hg => ⟨hI.own g hg, (World.ownsRow.lt hI.row g hg).2⟩
  have hul : ∀ g, u.ownBlock = some g → g < wr.heap.size := fun g hg => (World.ownsRow.lt e2 g hg).2
  have hkeep : ∀ g, g < W1.heap.size → u.ownBlock ≠ some g → w'.heap[g]? = W1.heap[g]? := fun g hg hne => (h2.block g (by simp; omega) (fun e => hne e.symm)).trans (Below.heap_alloc _ _ _ hg)
  have hbw : Below w.heap.size w w' := below_grown ((hbl.trans (hb.mono hbl.size)).alloc (by have := hbl.size; have := hb.size; omega) o) h2 ho (Nat.le_refl _)
  have hvs : ∀ i, i < vs.length → (vs ++ [v])[i]? = vs[i]? := fun i hi => List.getElem?_append_left hi
  have hlast : (vs ++ [v])[vs.length]? = some v := by simp
  have hlt : ∀ i x, (vs ++ [v])[i]? = some x → i < vs.length ∨ (i = vs.length ∧ x = v) := fun i x hx => by
    obtain ⟨hi, _⟩ := List.getElem?_eq_some_iff.1 hx
    rw [List.length_append] at hi
    by_cases h : i < vs.length
    · exact .inl h
    · have : i = vs.length := by simp at hi; omega
      subst this
      rw [hlast] at hx
      exact .inr ⟨rfl, by injection hx with hx; exact hx.symm⟩
  have hold : ∀ i x g, i < vs.length → vs[i]? = some x → x.ownBlock = some g → g < wr.heap.size ∧ u.ownBlock ≠ some g := fun i x g hi hx hg => by
    obtain ⟨q1, q2⟩ := e3 i (by omega) x hx
    exact ⟨(World.ownsRow.lt q1.row g hg).2, q2 g hg⟩
  refine ⟨⟨vs ++ [v], by simp [e1], by rw [List.length_append]; exact h1, fun i hi x hx => ?_, fun i j x x' hij hx hx' g hg => ?_⟩, fun g' hg' => ?_, hbw⟩
  · rcases hlt i x hx with hl | ⟨rfl, rfl⟩
    · rw [hvs i hl] at hx
      obtain ⟨q1, q2⟩ := e3 i (by omega) x hx
      have er : (rows ++ [row])[i] = rows[i]'(by omega) := List.getElem_append_left (by omega)
      rw [er]
      refine ⟨⟨orow_kept q1.row fun g hg => ?_, q1.own, hbw⟩, fun g hg => ?_⟩
      · obtain ⟨p1, p2⟩ := hold i x g hl hx hg
        rw [hkeep g (by have := hb.size; omega) p2]
        exact hb.block g p1
      · obtain ⟨p1, p2⟩ := hold i x g hl hx hg
        intro e
        rcases h3 g e with h | h
        · exact p2 h
        · have := hb.size; omega
    · have er : (rows ++ [row])[vs.length]'hi = row := by
        rw [List.getElem_append_right (by omega)]; simp
      rw [er]
      refine ⟨⟨orow_kept hI.row fun g hg => hkeep g (hIo g hg).2 (fun e => by have := hul g e; have := (hIo g hg).1; omega), fun g hg => by have := (hIo g hg).1; have := hbl.size; omega, hbw⟩, fun g hg => ?_⟩
      intro e
      rcases h3 g e with h | h
      · have := hul g h; have := (hIo g hg).1; omega
      · have := (hIo g hg).2; omega
  · rcases hlt j x' hx' with hl | ⟨rfl, rfl⟩
    · rw [hvs j hl] at hx'
      rw [hvs i (by omega)] at hx
      exact e4 i j x x' hij hx hx' g hg
    · rw [hvs i hij] at hx
      have := (hold i x g hij hx hg).1
      intro e
      have := (hIo g e).1
      omega
  · rcases h3 g' hg' with h | h
    · exact ho g' h
    · have := hbl.size; have := hb.size; omega
/-- it is read as rows of rows -/
theorem PR.seq {w wr : World} {u : Value} {rows : List (List Int)} (h : PR w wr u rows) (hz : ∀ r ∈ rows, ∀ x ∈ r, Amt x) (hl : ∀ r ∈ rows, r.length ≤ 100) : NSeq wr u rows := by
  obtain ⟨⟨vs, e1, e2, e3, e4⟩, ho, hbl⟩ := h
  obtain ⟨p, cap, rfl, -, -, hp⟩ := orow_shape e2
  refine ⟨p, cap, rfl, ?_⟩
  by_cases h0 : rows = []
  · exact .inl h0
  · have hpos : 0 < rows.length := List.length_pos_iff.2 h0
    obtain ⟨g, cap2, cur, e, hg, -⟩ := orow_some e2 hpos
    injection e with ea eb ec
    subst ea
    refine .inr ⟨g, 0, rfl, obj_lt hg, fun i hi => ?_⟩
    obtain ⟨v, hv⟩ : ∃ v, vs[i]? = some v := ⟨vs[i]'(by omega), List.getElem?_eq_getElem (by omega)⟩
    obtain ⟨q1, -⟩ := e3 i hi v hv
    obtain ⟨pp, cc, rfl, -, -, -⟩ := orow_shape q1.row
    refine ⟨pp, cc, ?_, orow_seq q1.row rfl (hz _ (List.getElem_mem hi)) (by have := hl _ (List.getElem_mem hi); omega)⟩
    rw [Nat.zero_add]
    exact orow_cell e2 rfl hv
/-- one number of it, and that number written -/
theorem PR.at {w wr : World} {u : Value} {rows : List (List Int)} (h : PR w wr u rows) {m c : Nat} (hm : m < rows.length) (hc : c < (rows[m]).length) (hz : ∀ r ∈ rows, ∀ x ∈ r, Amt x) :
    ∃ g cap g2 cap2, u = .slice (some ⟨g, 0, none⟩) rows.length cap ∧ g < wr.heap.size ∧ w.heap.size ≤ g ∧ wr.cell? ⟨g, m, none⟩ = some (.slice (some ⟨g2, 0, none⟩) (rows[m]).length cap2) ∧ g2 < wr.heap.size ∧ w.heap.size ≤ g2 ∧ g ≠ g2 ∧
      wr.cell? ⟨g2, c, none⟩ = some (.int .i64 ((rows[m]).getD c 0)) ∧ wr.frozen? ⟨g2, c, none⟩ = false ∧ ∀ y, PR w (wr.setCell ⟨g2, c, none⟩ (.int .i64 y)) u (rows.set m ((rows[m]).set c y)) := by
  obtain ⟨⟨vs, e1, e2, e3, e4⟩, ho, hbl⟩ := h
  obtain ⟨g, cap, cur, rfl, hg, -⟩ := orow_some e2 (by omega)
  obtain ⟨v, hv⟩ : ∃ v, vs[m]? = some v := ⟨vs[m]'(by omega), List.getElem?_eq_getElem (by omega)⟩
  obtain ⟨q1, q2⟩ := e3 m hm v hv
  obtain ⟨g2, cap2, cur2, rfl, hg2, -⟩ := orow_some q1.row (by omega)
  have hne : g ≠ g2 := fun e => q2 g2 rfl (by rw [e]; rfl)
  refine ⟨g, cap, g2, cap2, rfl, obj_lt hg, ho g rfl, orow_cell e2 rfl hv, obj_lt hg2, q1.own g2 rfl, hne, ?_, orow_free q1.row rfl c, fun y => ?_⟩
  · refine orow_cell q1.row rfl ?_
    rw [List.getElem?_map, List.getElem?_eq_getElem hc, List.getD_eq_getElem?_getD, List.getElem?_eq_getElem hc]; rfl
  · have hother : ∀ k, k ≠ g2 → (wr.setCell ⟨g2, c, none⟩ (.int .i64 y)).heap[k]? = wr.heap[k]? := fun k hk => by
      exact obj_other _ hk
    have hbw : Below w.heap.size w (wr.setCell ⟨g2, c, none⟩ (.int .i64 y)) := ⟨hbl.os, hbl.tape, hbl.output, by have := hbl.size; simpa using this, fun k hk => by rw [hother k (by have := q1.own g2 rfl; omega)]; exact hbl.block k hk⟩
    refine ⟨⟨vs, by simpa using e1, ?_, fun i hi x hx => ?_, e4⟩, ho, hbw⟩
    · rw [List.length_set]
      exact orow_kept e2 fun k hk => hother k (fun e => by rw [e] at hk; injection hk with hk; exact hne hk)
    · have hi2 : i < rows.length := by simpa using hi
      obtain ⟨r1, r2⟩ := e3 i hi2 x hx
      by_cases him : i = m
      · subst him
        rw [hv] at hx
        injection hx with hx
        subst hx
        have er : (rows.set i ((rows[i]).set c y))[i]'hi = (rows[i]).set c y := by simp
        rw [er]
        refine ⟨⟨?_, r1.own, hbw⟩, r2⟩
        have := orow_set r1.row (g := g2) (j := c) rfl (by simpa using hc) (.int .i64 y)
        rw [List.length_set, List.map_set]
        exact this
      · have er : (rows.set m ((rows[m]).set c y))[i]'hi = rows[i] := by rw [List.getElem_set_ne (by omega)]
        rw [er]
        refine ⟨⟨orow_kept r1.row fun k hk => hother k (fun e => ?_), r1.own, hbw⟩, r2⟩
        subst e
        rcases Nat.lt_or_gt_of_ne him with h | h
        · exact e4 i m _ _ h hx hv k hk rfl
        · exact e4 m i _ _ h hv hx k rfl hk
end Go.Proofs.YthocnlalahknjaaGreat.Dd
