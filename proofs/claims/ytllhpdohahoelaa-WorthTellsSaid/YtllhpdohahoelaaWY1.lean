/- The law's switch, apart: Post.
  The law's switch, apart: Rate.
  The law's switch, apart: Cut. -/
import Derived.Test.YtllhpdohahoelaaWX
namespace Go.Proofs.Ytllhpdohahoelaa
open Go.RowKit
set_option linter.unusedVariables false

set_option maxHeartbeats 8000000 in
set_option maxRecDepth 100000 in
theorem sw_post {K : Act → World → Prop} {Q : Exit → Act → World → Prop} {B1 : Nat → Prop} {lb b rb sb kb : Nat} {l l' : LM} {x x' : WM} {ls : LM} {p : Option Addr} {cap M : Nat} {y : WOp} {er : Int} {w : World}
    (hT8 : TG B1 lb b rb sb l' x' l ls p x.cs w) (hop : opW l x y = (er, l', x')) (hg : l.Good) (hsiz : Siz l x) (hM1 : 1 ≤ M ∧ M ≤ 16) (hnm : x.nm = M) (hsn : ls.nm = l.nm ∧ ls.nc = l.nc) (hsy : ∀ m, m < x.nm → x.S m = ls.B m)
    (hbx : OB w kb y) (hbB : B1 kb) (hrow : PRow w y.p y.len y.ps) (hyl : y.len ≤ 20) (ha : In64 y.a) (d1 : y.Do = 1)
    (u1 u2 u3 u4 u5 u6 u7 u8 u10 u11 u13 u14 u15 u17 u19 u21 u22 u23 u24 u25 u26 u27 u28 u29 u30 u31 u32 u33 u34 u35 u36 u37 u38 u39 u40 u41 u42 u43 u44 u45 u46 u47 u48 u49 u50 u51 u52 u53 u54 u55 u56 u57 u58 u59 u60 u61 u62 u63 u64 u65 u66 u67 u68 u69 u70 u71 u72 u73 u74 u75 u76 u77 u78 u79 u80 u81 u82 u83 u84 u85 u86 u87 u88 u89 u90 u91 u92 u93 u94 u95 u96 u97 u98 u99 u100 u101 u102 u103 u104 u105 u106 u107 u108 u109 u110 u111 u112 u113 u114 u115 u116 u117 u118 u120 u121 u122 u123 u124 u125 u126 u127 u128 u129 u130 u131 u132 u133 u134 u135 u136 u137 u138 u139 u140 u141 u142 u143 u144 u145 u146 u147 u148 u149 u150 u151 u152 u153 u154 u155 u156 u157 u158 u159 u160 u161 u162 u163 u164 u165 u166 u167 u168 u169 u170 u171 u172 u173 u174 u175 u176 u177 u178 u179 u180 u181 u182 u183 u184 u185 u186 u187 u188 u189 u190 u191 u192 u193 u194 u195 u196 u197 u198 u199 u200 u201 u202 u203 u204 u205 u206 u207 u208 u209 u210 u211 u212 u213 u214 u215 u216 u217 u218 u219 u220 u221 u222 u223 u224 u225 u226 u227 u228 u229 u230 u231 u232 u233 u234 u235 u236 u237 u238 u239 u240 u241 u242 u243 u244 u245 u246 u247 u248 u249 u250 u251 u252 u253 u254 u255 u256 u257 u258 u259 u260 u261 u262 u263 u264 u265 u266 u267 u268 u269 u270 u271 u272 u273 u274 u275 u276 u277 u278 u279 u280 u281 u282 u283 u284 u285 u286 u287 u288 u289 u290 u291 u292 u293 u294 u295 u296 u297 u298 u299 u300 u301 u302 u303 u304 u305 u306 u307 u308 u309 u310 u311 u312 u313 u314 u315 u316 u317 u318 u319 u320 u321 u322 u323 u324 u325 u326 u327 u328 u329 u330 u331 u332 u333 u334 u335 u336 u337 u338 u339 u340 u341 u342 u343 u344 u345 u346 u347 u348 u349 u350 u351 u352 u353 u354 u355 u356 u357 u358 u359 u360 u361 u362 u363 u364 u365 u366 u367 u368 u369 u370 u371 u372 u373 u374 u375 u376 u377 u378 u379 u380 u381 u382 u383 u384 u385 u386 u387 u388 u389 u390 u391 u392 : Value)
    (hK : ∀ (p' : Option Addr) (cap' sb' : Nat) (ls' : LM) (v21 v22 v23 v24 v25 v26 v120 v121 v122 v123 v124 v125 v126 v127 v128 v129 v130 v131 v132 v133 v134 v135 v136 v137 v138 v139 v140 v141 v142 v143 v144 v145 v146 v147 v148 v149 v150 v151 v152 v153 v154 v155 v156 v157 v158 v159 v160 v161 v162 v163 v164 v165 v166 v167 v168 v169 v170 v171 v172 v173 v174 v175 v176 v177 v178 v179 v180 v181 v182 v183 v184 v185 v186 v187 v188 v189 v190 v191 v192 v193 v194 v195 v196 v197 v198 v199 v200 v201 v202 v203 v204 v205 v206 v207 v208 v209 v210 v211 v212 v213 v214 v215 v216 v217 v218 v219 v220 v221 v222 v223 v224 v225 v226 v227 v228 v229 v230 v231 v232 v233 v234 v235 v236 v237 v238 v239 v240 v241 v242 v243 v244 v245 v246 v247 v248 v249 v250 v251 v252 v253 v254 v255 v256 v257 v258 v259 : Value) (w' : World), TLS B1 lb b rb sb' l' x' ls' p' M w' → Kp (fun j => ¬ B1 j) w w' → K ({ tmps := (Value.slice p' x'.cs.length cap' :: u1 :: u2 :: u3 :: u4 :: u5 :: u6 :: u7 :: u8 :: .int .i64 (M : Int) :: u10 :: u11 :: .pointer (some ⟨rb, 0, none⟩) :: u13 :: u14 :: u15 :: .pointer (some ⟨sb', 0, none⟩) :: u17 :: .pointer (some ⟨kb, 0, none⟩) :: u19 :: .int .i64 er :: v21 :: v22 :: v23 :: v24 :: v25 :: v26 :: u27 :: u28 :: u29 :: u30 :: u31 :: u32 :: u33 :: u34 :: u35 :: u36 :: u37 :: u38 :: u39 :: u40 :: u41 :: u42 :: u43 :: u44 :: u45 :: u46 :: u47 :: u48 :: u49 :: u50 :: u51 :: u52 :: u53 :: u54 :: u55 :: u56 :: u57 :: u58 :: u59 :: u60 :: u61 :: u62 :: u63 :: u64 :: u65 :: u66 :: u67 :: u68 :: u69 :: u70 :: u71 :: u72 :: u73 :: u74 :: u75 :: u76 :: u77 :: u78 :: u79 :: u80 :: u81 :: u82 :: u83 :: u84 :: u85 :: u86 :: u87 :: u88 :: u89 :: u90 :: u91 :: u92 :: u93 :: u94 :: u95 :: u96 :: u97 :: u98 :: u99 :: u100 :: u101 :: u102 :: u103 :: u104 :: u105 :: u106 :: u107 :: u108 :: u109 :: u110 :: u111 :: u112 :: u113 :: u114 :: u115 :: u116 :: u117 :: u118 :: .int .i64 y.Do :: v120 :: v121 :: v122 :: v123 :: v124 :: v125 :: v126 :: v127 :: v128 :: v129 :: v130 :: v131 :: v132 :: v133 :: v134 :: v135 :: v136 :: v137 :: v138 :: v139 :: v140 :: v141 :: v142 :: v143 :: v144 :: v145 :: v146 :: v147 :: v148 :: v149 :: v150 :: v151 :: v152 :: v153 :: v154 :: v155 :: v156 :: v157 :: v158 :: v159 :: v160 :: v161 :: v162 :: v163 :: v164 :: v165 :: v166 :: v167 :: v168 :: v169 :: v170 :: v171 :: v172 :: v173 :: v174 :: v175 :: v176 :: v177 :: v178 :: v179 :: v180 :: v181 :: v182 :: v183 :: v184 :: v185 :: v186 :: v187 :: v188 :: v189 :: v190 :: v191 :: v192 :: v193 :: v194 :: v195 :: v196 :: v197 :: v198 :: v199 :: v200 :: v201 :: v202 :: v203 :: v204 :: v205 :: v206 :: v207 :: v208 :: v209 :: v210 :: v211 :: v212 :: v213 :: v214 :: v215 :: v216 :: v217 :: v218 :: v219 :: v220 :: v221 :: v222 :: v223 :: v224 :: v225 :: v226 :: v227 :: v228 :: v229 :: v230 :: v231 :: v232 :: v233 :: v234 :: v235 :: v236 :: v237 :: v238 :: v239 :: v240 :: v241 :: v242 :: v243 :: v244 :: v245 :: v246 :: v247 :: v248 :: v249 :: v250 :: v251 :: v252 :: v253 :: v254 :: v255 :: v256 :: v257 :: v258 :: v259 :: u260 :: u261 :: u262 :: u263 :: u264 :: u265 :: u266 :: u267 :: u268 :: u269 :: u270 :: u271 :: u272 :: u273 :: u274 :: u275 :: u276 :: u277 :: u278 :: u279 :: u280 :: u281 :: u282 :: u283 :: u284 :: u285 :: u286 :: u287 :: u288 :: u289 :: u290 :: u291 :: u292 :: u293 :: u294 :: u295 :: u296 :: u297 :: u298 :: u299 :: u300 :: u301 :: u302 :: u303 :: u304 :: u305 :: u306 :: u307 :: u308 :: u309 :: u310 :: u311 :: u312 :: u313 :: u314 :: u315 :: u316 :: u317 :: u318 :: u319 :: u320 :: u321 :: u322 :: u323 :: u324 :: u325 :: u326 :: u327 :: u328 :: u329 :: u330 :: u331 :: u332 :: u333 :: u334 :: u335 :: u336 :: u337 :: u338 :: u339 :: u340 :: u341 :: u342 :: u343 :: u344 :: u345 :: u346 :: u347 :: u348 :: u349 :: u350 :: u351 :: u352 :: u353 :: u354 :: u355 :: u356 :: u357 :: u358 :: u359 :: u360 :: u361 :: u362 :: u363 :: u364 :: u365 :: u366 :: u367 :: u368 :: u369 :: u370 :: u371 :: u372 :: u373 :: u374 :: u375 :: u376 :: u377 :: u378 :: u379 :: u380 :: u381 :: u382 :: u383 :: u384 :: u385 :: u386 :: u387 :: u388 :: u389 :: u390 :: u391 :: u392 :: []).toArray, defers := [] } : Act) w') :
    Code.wp Try.prog cswitch (Exit.then K Q) ({ tmps := (Value.slice p x.cs.length cap :: u1 :: u2 :: u3 :: u4 :: u5 :: u6 :: u7 :: u8 :: .int .i64 (M : Int) :: u10 :: u11 :: .pointer (some ⟨rb, 0, none⟩) :: u13 :: u14 :: u15 :: .pointer (some ⟨sb, 0, none⟩) :: u17 :: .pointer (some ⟨kb, 0, none⟩) :: u19 :: .int .i64 0 :: u21 :: u22 :: u23 :: u24 :: u25 :: u26 :: u27 :: u28 :: u29 :: u30 :: u31 :: u32 :: u33 :: u34 :: u35 :: u36 :: u37 :: u38 :: u39 :: u40 :: u41 :: u42 :: u43 :: u44 :: u45 :: u46 :: u47 :: u48 :: u49 :: u50 :: u51 :: u52 :: u53 :: u54 :: u55 :: u56 :: u57 :: u58 :: u59 :: u60 :: u61 :: u62 :: u63 :: u64 :: u65 :: u66 :: u67 :: u68 :: u69 :: u70 :: u71 :: u72 :: u73 :: u74 :: u75 :: u76 :: u77 :: u78 :: u79 :: u80 :: u81 :: u82 :: u83 :: u84 :: u85 :: u86 :: u87 :: u88 :: u89 :: u90 :: u91 :: u92 :: u93 :: u94 :: u95 :: u96 :: u97 :: u98 :: u99 :: u100 :: u101 :: u102 :: u103 :: u104 :: u105 :: u106 :: u107 :: u108 :: u109 :: u110 :: u111 :: u112 :: u113 :: u114 :: u115 :: u116 :: u117 :: u118 :: .int .i64 y.Do :: u120 :: u121 :: u122 :: u123 :: u124 :: u125 :: u126 :: u127 :: u128 :: u129 :: u130 :: u131 :: u132 :: u133 :: u134 :: u135 :: u136 :: u137 :: u138 :: u139 :: u140 :: u141 :: u142 :: u143 :: u144 :: u145 :: u146 :: u147 :: u148 :: u149 :: u150 :: u151 :: u152 :: u153 :: u154 :: u155 :: u156 :: u157 :: u158 :: u159 :: u160 :: u161 :: u162 :: u163 :: u164 :: u165 :: u166 :: u167 :: u168 :: u169 :: u170 :: u171 :: u172 :: u173 :: u174 :: u175 :: u176 :: u177 :: u178 :: u179 :: u180 :: u181 :: u182 :: u183 :: u184 :: u185 :: u186 :: u187 :: u188 :: u189 :: u190 :: u191 :: u192 :: u193 :: u194 :: u195 :: u196 :: u197 :: u198 :: u199 :: u200 :: u201 :: u202 :: u203 :: u204 :: u205 :: u206 :: u207 :: u208 :: u209 :: u210 :: u211 :: u212 :: u213 :: u214 :: u215 :: u216 :: u217 :: u218 :: u219 :: u220 :: u221 :: u222 :: u223 :: u224 :: u225 :: u226 :: u227 :: u228 :: u229 :: u230 :: u231 :: u232 :: u233 :: u234 :: u235 :: u236 :: u237 :: u238 :: u239 :: u240 :: u241 :: u242 :: u243 :: u244 :: u245 :: u246 :: u247 :: u248 :: u249 :: u250 :: u251 :: u252 :: u253 :: u254 :: u255 :: u256 :: u257 :: u258 :: u259 :: u260 :: u261 :: u262 :: u263 :: u264 :: u265 :: u266 :: u267 :: u268 :: u269 :: u270 :: u271 :: u272 :: u273 :: u274 :: u275 :: u276 :: u277 :: u278 :: u279 :: u280 :: u281 :: u282 :: u283 :: u284 :: u285 :: u286 :: u287 :: u288 :: u289 :: u290 :: u291 :: u292 :: u293 :: u294 :: u295 :: u296 :: u297 :: u298 :: u299 :: u300 :: u301 :: u302 :: u303 :: u304 :: u305 :: u306 :: u307 :: u308 :: u309 :: u310 :: u311 :: u312 :: u313 :: u314 :: u315 :: u316 :: u317 :: u318 :: u319 :: u320 :: u321 :: u322 :: u323 :: u324 :: u325 :: u326 :: u327 :: u328 :: u329 :: u330 :: u331 :: u332 :: u333 :: u334 :: u335 :: u336 :: u337 :: u338 :: u339 :: u340 :: u341 :: u342 :: u343 :: u344 :: u345 :: u346 :: u347 :: u348 :: u349 :: u350 :: u351 :: u352 :: u353 :: u354 :: u355 :: u356 :: u357 :: u358 :: u359 :: u360 :: u361 :: u362 :: u363 :: u364 :: u365 :: u366 :: u367 :: u368 :: u369 :: u370 :: u371 :: u372 :: u373 :: u374 :: u375 :: u376 :: u377 :: u378 :: u379 :: u380 :: u381 :: u382 :: u383 :: u384 :: u385 :: u386 :: u387 :: u388 :: u389 :: u390 :: u391 :: u392 :: []).toArray, defers := [] } : Act) w := by
  have hkl := obj_lt hbx
  obtain ⟨y0, y1, y2, y3, y4⟩ := hbx.cells
  have hc0 : 0 < x.cs.length := by obtain ⟨_, _, _, h⟩ := hT8; exact h.tn
  have hc8 : x'.cs.length ≤ 8 := by obtain ⟨_, _, _, h⟩ := hT8; obtain ⟨P, hP⟩ := h.a.wp; exact (chk_ok hP.chk).2.1
  have hsz := opW_siz hg hsiz y
  have hgd := opW_good hg x y
  rw [hop] at hsz hgd
  dsimp only at hsz hgd
  replace hK := Lib.hid hK
  replace hT8 := Lib.hid hT8
  replace hg := Lib.hid hg
  replace hsiz := Lib.hid hsiz
  replace hsn := Lib.hid hsn
  replace hsy := Lib.hid hsy
  replace hbx := Lib.hid hbx
  replace hrow := Lib.hid hrow
  replace hsz := Lib.hid hsz
  replace hgd := Lib.hid hgd
  have cI := hT8.out.rpost hg.out y.p y.len y.cap y.ps hrow.out (by omega)
  have d0 : y.Do ≠ 0 := by omega
  have d4 : y.Do ≠ 4 := by omega
  have hq := hop
  unfold opW at hq
  rw [if_neg d0, if_neg d4, if_pos d1] at hq
  injection hq with hq1 hq2
  injection hq2 with hq2 hq3
  rw [hq1, hq2] at cI
  rw [hq2] at hq3
  have b1 : (y.Do == 1) = true := by simpa using d1
  have b0 : (y.Do == 0) = false := by simpa using d0
  have b4 : (y.Do == 4) = false := by simpa using d4
  have hxn : x'.nm = M := by rw [← hq3]; exact hnm
  have hcs : x'.cs = x.cs := by rw [← hq3]; rfl
  have hsy' : ∀ m, m < x'.nm → x'.S m = l'.B m := fun m hm => by
    have hm2 : m < x.nm := by rw [hnm, ← hxn]; exact hm
    have e : x'.S m = l'.row m := by rw [← hq3]; exact if_pos hm2
    rw [e]
    exact row_B hgd.out (by rw [← hsz.out.1.nm]; exact hm)
  replace hop := Lib.hid hop
  replace cI := Lib.hid cI
  replace hq3 := Lib.hid hq3
  replace hsy' := Lib.hid hsy'
  clear hq1 hq2
  replace d0 := Lib.hid d0
  replace d4 := Lib.hid d4
  replace d1 := Lib.hid d1
  conv => arg 2; whnf
  go_upto_region 29 with (first | (go_at_call 15; (with_reducible refine cI.out.mono ?_); rintro e w9 ⟨rfl, hT9, hK9⟩))
  have cC := hT9.copy
  replace cC := Lib.hid cC
  replace hT9 := Lib.hid hT9
  have hcl : x.cs.length = x'.cs.length := by rw [hcs]
  rw [hcl]
  replace hcl := Lib.hid hcl
  replace hcs := Lib.hid hcs
  replace hK9 := Lib.hid hK9
  go_wp2_with (first | (go_at_call 12; (with_reducible refine cC.out.mono ?_); rintro e w10 ⟨sb2, rfl, hT10, hB10⟩; replace hT10 := Lib.hid hT10; replace hB10 := Lib.hid hB10))
  refine hK.out p cap sb2 l' _ _ _ _ _ _ _ _ _ _ _ _ _ _ _ _ _ _ _ _ _ _ _ _ _ _ _ _ _ _ _ _ _ _ _ _ _ _ _ _ _ _ _ _ _ _ _ _ _ _ _ _ _ _ _ _ _ _ _ _ _ _ _ _ _ _ _ _ _ _ _ _ _ _ _ _ _ _ _ _ _ _ _ _ _ _ _ _ _ _ _ _ _ _ _ _ _ _ _ _ _ _ _ _ _ _ _ _ _ _ _ _ _ _ _ _ _ _ _ _ _ _ _ _ _ _ _ _ _ _ _ _ _ _ _ _ _ _ _ _ _ _ _ _ _ _ _ ?_ ?_
  · exact ⟨by rw [hcs.out]; exact hT10.out, hgd.out, hsz.out.1, hxn, ⟨rfl, rfl⟩, hsy'.out⟩
  · exact hK9.out.trans (Kp.of_below hB10.out)
end Go.Proofs.Ytllhpdohahoelaa
namespace Go.Proofs.Ytllhpdohahoelaa
open Go.RowKit
set_option linter.unusedVariables false

set_option maxHeartbeats 8000000 in
set_option maxRecDepth 100000 in
theorem sw_rate {K : Act → World → Prop} {Q : Exit → Act → World → Prop} {B1 : Nat → Prop} {lb b rb sb kb : Nat} {l l' : LM} {x x' : WM} {ls : LM} {p : Option Addr} {cap M : Nat} {y : WOp} {er : Int} {w : World}
    (hT8 : TG B1 lb b rb sb l' x' l ls p x.cs w) (hop : opW l x y = (er, l', x')) (hg : l.Good) (hsiz : Siz l x) (hM1 : 1 ≤ M ∧ M ≤ 16) (hnm : x.nm = M) (hsn : ls.nm = l.nm ∧ ls.nc = l.nc) (hsy : ∀ m, m < x.nm → x.S m = ls.B m)
    (hbx : OB w kb y) (hbB : B1 kb) (hrow : PRow w y.p y.len y.ps) (hyl : y.len ≤ 20) (ha : In64 y.a) (d2 : y.Do = 2)
    (u1 u2 u3 u4 u5 u6 u7 u8 u10 u11 u13 u14 u15 u17 u19 u21 u22 u23 u24 u25 u26 u27 u28 u29 u30 u31 u32 u33 u34 u35 u36 u37 u38 u39 u40 u41 u42 u43 u44 u45 u46 u47 u48 u49 u50 u51 u52 u53 u54 u55 u56 u57 u58 u59 u60 u61 u62 u63 u64 u65 u66 u67 u68 u69 u70 u71 u72 u73 u74 u75 u76 u77 u78 u79 u80 u81 u82 u83 u84 u85 u86 u87 u88 u89 u90 u91 u92 u93 u94 u95 u96 u97 u98 u99 u100 u101 u102 u103 u104 u105 u106 u107 u108 u109 u110 u111 u112 u113 u114 u115 u116 u117 u118 u120 u121 u122 u123 u124 u125 u126 u127 u128 u129 u130 u131 u132 u133 u134 u135 u136 u137 u138 u139 u140 u141 u142 u143 u144 u145 u146 u147 u148 u149 u150 u151 u152 u153 u154 u155 u156 u157 u158 u159 u160 u161 u162 u163 u164 u165 u166 u167 u168 u169 u170 u171 u172 u173 u174 u175 u176 u177 u178 u179 u180 u181 u182 u183 u184 u185 u186 u187 u188 u189 u190 u191 u192 u193 u194 u195 u196 u197 u198 u199 u200 u201 u202 u203 u204 u205 u206 u207 u208 u209 u210 u211 u212 u213 u214 u215 u216 u217 u218 u219 u220 u221 u222 u223 u224 u225 u226 u227 u228 u229 u230 u231 u232 u233 u234 u235 u236 u237 u238 u239 u240 u241 u242 u243 u244 u245 u246 u247 u248 u249 u250 u251 u252 u253 u254 u255 u256 u257 u258 u259 u260 u261 u262 u263 u264 u265 u266 u267 u268 u269 u270 u271 u272 u273 u274 u275 u276 u277 u278 u279 u280 u281 u282 u283 u284 u285 u286 u287 u288 u289 u290 u291 u292 u293 u294 u295 u296 u297 u298 u299 u300 u301 u302 u303 u304 u305 u306 u307 u308 u309 u310 u311 u312 u313 u314 u315 u316 u317 u318 u319 u320 u321 u322 u323 u324 u325 u326 u327 u328 u329 u330 u331 u332 u333 u334 u335 u336 u337 u338 u339 u340 u341 u342 u343 u344 u345 u346 u347 u348 u349 u350 u351 u352 u353 u354 u355 u356 u357 u358 u359 u360 u361 u362 u363 u364 u365 u366 u367 u368 u369 u370 u371 u372 u373 u374 u375 u376 u377 u378 u379 u380 u381 u382 u383 u384 u385 u386 u387 u388 u389 u390 u391 u392 : Value)
    (hK : ∀ (p' : Option Addr) (cap' sb' : Nat) (ls' : LM) (v21 v22 v23 v24 v25 v26 v120 v121 v122 v123 v124 v125 v126 v127 v128 v129 v130 v131 v132 v133 v134 v135 v136 v137 v138 v139 v140 v141 v142 v143 v144 v145 v146 v147 v148 v149 v150 v151 v152 v153 v154 v155 v156 v157 v158 v159 v160 v161 v162 v163 v164 v165 v166 v167 v168 v169 v170 v171 v172 v173 v174 v175 v176 v177 v178 v179 v180 v181 v182 v183 v184 v185 v186 v187 v188 v189 v190 v191 v192 v193 v194 v195 v196 v197 v198 v199 v200 v201 v202 v203 v204 v205 v206 v207 v208 v209 v210 v211 v212 v213 v214 v215 v216 v217 v218 v219 v220 v221 v222 v223 v224 v225 v226 v227 v228 v229 v230 v231 v232 v233 v234 v235 v236 v237 v238 v239 v240 v241 v242 v243 v244 v245 v246 v247 v248 v249 v250 v251 v252 v253 v254 v255 v256 v257 v258 v259 : Value) (w' : World), TLS B1 lb b rb sb' l' x' ls' p' M w' → Kp (fun j => ¬ B1 j) w w' → K ({ tmps := (Value.slice p' x'.cs.length cap' :: u1 :: u2 :: u3 :: u4 :: u5 :: u6 :: u7 :: u8 :: .int .i64 (M : Int) :: u10 :: u11 :: .pointer (some ⟨rb, 0, none⟩) :: u13 :: u14 :: u15 :: .pointer (some ⟨sb', 0, none⟩) :: u17 :: .pointer (some ⟨kb, 0, none⟩) :: u19 :: .int .i64 er :: v21 :: v22 :: v23 :: v24 :: v25 :: v26 :: u27 :: u28 :: u29 :: u30 :: u31 :: u32 :: u33 :: u34 :: u35 :: u36 :: u37 :: u38 :: u39 :: u40 :: u41 :: u42 :: u43 :: u44 :: u45 :: u46 :: u47 :: u48 :: u49 :: u50 :: u51 :: u52 :: u53 :: u54 :: u55 :: u56 :: u57 :: u58 :: u59 :: u60 :: u61 :: u62 :: u63 :: u64 :: u65 :: u66 :: u67 :: u68 :: u69 :: u70 :: u71 :: u72 :: u73 :: u74 :: u75 :: u76 :: u77 :: u78 :: u79 :: u80 :: u81 :: u82 :: u83 :: u84 :: u85 :: u86 :: u87 :: u88 :: u89 :: u90 :: u91 :: u92 :: u93 :: u94 :: u95 :: u96 :: u97 :: u98 :: u99 :: u100 :: u101 :: u102 :: u103 :: u104 :: u105 :: u106 :: u107 :: u108 :: u109 :: u110 :: u111 :: u112 :: u113 :: u114 :: u115 :: u116 :: u117 :: u118 :: .int .i64 y.Do :: v120 :: v121 :: v122 :: v123 :: v124 :: v125 :: v126 :: v127 :: v128 :: v129 :: v130 :: v131 :: v132 :: v133 :: v134 :: v135 :: v136 :: v137 :: v138 :: v139 :: v140 :: v141 :: v142 :: v143 :: v144 :: v145 :: v146 :: v147 :: v148 :: v149 :: v150 :: v151 :: v152 :: v153 :: v154 :: v155 :: v156 :: v157 :: v158 :: v159 :: v160 :: v161 :: v162 :: v163 :: v164 :: v165 :: v166 :: v167 :: v168 :: v169 :: v170 :: v171 :: v172 :: v173 :: v174 :: v175 :: v176 :: v177 :: v178 :: v179 :: v180 :: v181 :: v182 :: v183 :: v184 :: v185 :: v186 :: v187 :: v188 :: v189 :: v190 :: v191 :: v192 :: v193 :: v194 :: v195 :: v196 :: v197 :: v198 :: v199 :: v200 :: v201 :: v202 :: v203 :: v204 :: v205 :: v206 :: v207 :: v208 :: v209 :: v210 :: v211 :: v212 :: v213 :: v214 :: v215 :: v216 :: v217 :: v218 :: v219 :: v220 :: v221 :: v222 :: v223 :: v224 :: v225 :: v226 :: v227 :: v228 :: v229 :: v230 :: v231 :: v232 :: v233 :: v234 :: v235 :: v236 :: v237 :: v238 :: v239 :: v240 :: v241 :: v242 :: v243 :: v244 :: v245 :: v246 :: v247 :: v248 :: v249 :: v250 :: v251 :: v252 :: v253 :: v254 :: v255 :: v256 :: v257 :: v258 :: v259 :: u260 :: u261 :: u262 :: u263 :: u264 :: u265 :: u266 :: u267 :: u268 :: u269 :: u270 :: u271 :: u272 :: u273 :: u274 :: u275 :: u276 :: u277 :: u278 :: u279 :: u280 :: u281 :: u282 :: u283 :: u284 :: u285 :: u286 :: u287 :: u288 :: u289 :: u290 :: u291 :: u292 :: u293 :: u294 :: u295 :: u296 :: u297 :: u298 :: u299 :: u300 :: u301 :: u302 :: u303 :: u304 :: u305 :: u306 :: u307 :: u308 :: u309 :: u310 :: u311 :: u312 :: u313 :: u314 :: u315 :: u316 :: u317 :: u318 :: u319 :: u320 :: u321 :: u322 :: u323 :: u324 :: u325 :: u326 :: u327 :: u328 :: u329 :: u330 :: u331 :: u332 :: u333 :: u334 :: u335 :: u336 :: u337 :: u338 :: u339 :: u340 :: u341 :: u342 :: u343 :: u344 :: u345 :: u346 :: u347 :: u348 :: u349 :: u350 :: u351 :: u352 :: u353 :: u354 :: u355 :: u356 :: u357 :: u358 :: u359 :: u360 :: u361 :: u362 :: u363 :: u364 :: u365 :: u366 :: u367 :: u368 :: u369 :: u370 :: u371 :: u372 :: u373 :: u374 :: u375 :: u376 :: u377 :: u378 :: u379 :: u380 :: u381 :: u382 :: u383 :: u384 :: u385 :: u386 :: u387 :: u388 :: u389 :: u390 :: u391 :: u392 :: []).toArray, defers := [] } : Act) w') :
    Code.wp Try.prog cswitch (Exit.then K Q) ({ tmps := (Value.slice p x.cs.length cap :: u1 :: u2 :: u3 :: u4 :: u5 :: u6 :: u7 :: u8 :: .int .i64 (M : Int) :: u10 :: u11 :: .pointer (some ⟨rb, 0, none⟩) :: u13 :: u14 :: u15 :: .pointer (some ⟨sb, 0, none⟩) :: u17 :: .pointer (some ⟨kb, 0, none⟩) :: u19 :: .int .i64 0 :: u21 :: u22 :: u23 :: u24 :: u25 :: u26 :: u27 :: u28 :: u29 :: u30 :: u31 :: u32 :: u33 :: u34 :: u35 :: u36 :: u37 :: u38 :: u39 :: u40 :: u41 :: u42 :: u43 :: u44 :: u45 :: u46 :: u47 :: u48 :: u49 :: u50 :: u51 :: u52 :: u53 :: u54 :: u55 :: u56 :: u57 :: u58 :: u59 :: u60 :: u61 :: u62 :: u63 :: u64 :: u65 :: u66 :: u67 :: u68 :: u69 :: u70 :: u71 :: u72 :: u73 :: u74 :: u75 :: u76 :: u77 :: u78 :: u79 :: u80 :: u81 :: u82 :: u83 :: u84 :: u85 :: u86 :: u87 :: u88 :: u89 :: u90 :: u91 :: u92 :: u93 :: u94 :: u95 :: u96 :: u97 :: u98 :: u99 :: u100 :: u101 :: u102 :: u103 :: u104 :: u105 :: u106 :: u107 :: u108 :: u109 :: u110 :: u111 :: u112 :: u113 :: u114 :: u115 :: u116 :: u117 :: u118 :: .int .i64 y.Do :: u120 :: u121 :: u122 :: u123 :: u124 :: u125 :: u126 :: u127 :: u128 :: u129 :: u130 :: u131 :: u132 :: u133 :: u134 :: u135 :: u136 :: u137 :: u138 :: u139 :: u140 :: u141 :: u142 :: u143 :: u144 :: u145 :: u146 :: u147 :: u148 :: u149 :: u150 :: u151 :: u152 :: u153 :: u154 :: u155 :: u156 :: u157 :: u158 :: u159 :: u160 :: u161 :: u162 :: u163 :: u164 :: u165 :: u166 :: u167 :: u168 :: u169 :: u170 :: u171 :: u172 :: u173 :: u174 :: u175 :: u176 :: u177 :: u178 :: u179 :: u180 :: u181 :: u182 :: u183 :: u184 :: u185 :: u186 :: u187 :: u188 :: u189 :: u190 :: u191 :: u192 :: u193 :: u194 :: u195 :: u196 :: u197 :: u198 :: u199 :: u200 :: u201 :: u202 :: u203 :: u204 :: u205 :: u206 :: u207 :: u208 :: u209 :: u210 :: u211 :: u212 :: u213 :: u214 :: u215 :: u216 :: u217 :: u218 :: u219 :: u220 :: u221 :: u222 :: u223 :: u224 :: u225 :: u226 :: u227 :: u228 :: u229 :: u230 :: u231 :: u232 :: u233 :: u234 :: u235 :: u236 :: u237 :: u238 :: u239 :: u240 :: u241 :: u242 :: u243 :: u244 :: u245 :: u246 :: u247 :: u248 :: u249 :: u250 :: u251 :: u252 :: u253 :: u254 :: u255 :: u256 :: u257 :: u258 :: u259 :: u260 :: u261 :: u262 :: u263 :: u264 :: u265 :: u266 :: u267 :: u268 :: u269 :: u270 :: u271 :: u272 :: u273 :: u274 :: u275 :: u276 :: u277 :: u278 :: u279 :: u280 :: u281 :: u282 :: u283 :: u284 :: u285 :: u286 :: u287 :: u288 :: u289 :: u290 :: u291 :: u292 :: u293 :: u294 :: u295 :: u296 :: u297 :: u298 :: u299 :: u300 :: u301 :: u302 :: u303 :: u304 :: u305 :: u306 :: u307 :: u308 :: u309 :: u310 :: u311 :: u312 :: u313 :: u314 :: u315 :: u316 :: u317 :: u318 :: u319 :: u320 :: u321 :: u322 :: u323 :: u324 :: u325 :: u326 :: u327 :: u328 :: u329 :: u330 :: u331 :: u332 :: u333 :: u334 :: u335 :: u336 :: u337 :: u338 :: u339 :: u340 :: u341 :: u342 :: u343 :: u344 :: u345 :: u346 :: u347 :: u348 :: u349 :: u350 :: u351 :: u352 :: u353 :: u354 :: u355 :: u356 :: u357 :: u358 :: u359 :: u360 :: u361 :: u362 :: u363 :: u364 :: u365 :: u366 :: u367 :: u368 :: u369 :: u370 :: u371 :: u372 :: u373 :: u374 :: u375 :: u376 :: u377 :: u378 :: u379 :: u380 :: u381 :: u382 :: u383 :: u384 :: u385 :: u386 :: u387 :: u388 :: u389 :: u390 :: u391 :: u392 :: []).toArray, defers := [] } : Act) w := by
  have hkl := obj_lt hbx
  obtain ⟨y0, y1, y2, y3, y4⟩ := hbx.cells
  have hc0 : 0 < x.cs.length := by obtain ⟨_, _, _, h⟩ := hT8; exact h.tn
  have hc8 : x'.cs.length ≤ 8 := by obtain ⟨_, _, _, h⟩ := hT8; obtain ⟨P, hP⟩ := h.a.wp; exact (chk_ok hP.chk).2.1
  have hsz := opW_siz hg hsiz y
  have hgd := opW_good hg x y
  rw [hop] at hsz hgd
  dsimp only at hsz hgd
  replace hK := Lib.hid hK
  replace hT8 := Lib.hid hT8
  replace hg := Lib.hid hg
  replace hsiz := Lib.hid hsiz
  replace hsn := Lib.hid hsn
  replace hsy := Lib.hid hsy
  replace hbx := Lib.hid hbx
  replace hrow := Lib.hid hrow
  replace hsz := Lib.hid hsz
  replace hgd := Lib.hid hgd
  have d0 : y.Do ≠ 0 := by omega
  have d4 : y.Do ≠ 4 := by omega
  have d1 : y.Do ≠ 1 := by omega
  have hq := hop
  unfold opW at hq
  rw [if_neg d0, if_neg d4, if_neg d1, if_pos d2] at hq
  injection hq with hq1 hq2
  injection hq2 with hq2 hq3
  subst hq2
  have b2 : (y.Do == 2) = true := by simpa using d2
  have b0 : (y.Do == 0) = false := by simpa using d0
  have b4 : (y.Do == 4) = false := by simpa using d4
  have b1 : (y.Do == 1) = false := by simpa using d1
  have hTw : Tab w p x.cs.length x.cs := by obtain ⟨_, _, _, h⟩ := hT8.out; exact h.t
  have hc8x : x.cs.length ≤ 1000 := by have := (rate_nm x y.c y.a).2.2; rw [hq3] at this; omega
  have hfnm := rate_nm x y.c y.a
  rw [hq3] at hfnm
  have hxn : x'.nm = M := hfnm.1.trans hnm
  have hsy' : ∀ m, m < x'.nm → x'.S m = ls.B m := fun m hm => by rw [hfnm.2.1]; exact hsy.out m (by rw [← hfnm.1]; exact hm)
  replace hop := Lib.hid hop
  replace hsy' := Lib.hid hsy'
  replace d0 := Lib.hid d0
  replace d4 := Lib.hid d4
  replace d1 := Lib.hid d1
  replace d2 := Lib.hid d2
  conv => arg 2; whnf
  by_cases hr : 0 ≤ y.c ∧ y.c < x.cs.length
  · obtain ⟨k, hk⟩ : ∃ k : Nat, y.c = k := ⟨y.c.toNat, by omega⟩
    have hkc : k < x.cs.length := by omega
    have hkz : (k : Int) < (x.cs.length : Int) := by omega
    have hct : y.c.toNat = k := by omega
    have oldIn : Amt (cAt x.cs k).cut := (hTw.2.1 k).2.2
    have cW := withR_any p x.cs.length cap x.cs k y.a (cAt x.cs k).cut w hTw hkc hc8x ha oldIn
    have hby : x.by (x.cs.set k ⟨(cAt x.cs k).code, y.a, (cAt x.cs k).cut⟩) = (er, x') := by
      have e : x.rate y.c y.a = x.by (x.cs.set k ⟨(cAt x.cs k).code, y.a, (cAt x.cs k).cut⟩) := by unfold WM.rate; rw [if_pos hr, hct]
      rw [← e, ← hq1, ← hq3]
    have hll : (x.cs.set k ⟨(cAt x.cs k).code, y.a, (cAt x.cs k).cut⟩).length = x.cs.length := List.length_set ..
    generalize x.cs.set k ⟨(cAt x.cs k).code, y.a, (cAt x.cs k).cut⟩ = ds at *
    obtain ⟨_, _, _, hcc⟩ := id hTw
    obtain ⟨tb, toff, rfl, htl, hcc⟩ := hcc.resolve_left (by omega)
    obtain ⟨z0, z1, z2⟩ := hcc k hkc
    rw [hk] at y2
    unfold WM.by at hby
    replace hcc := Lib.hid hcc
    replace hTw := Lib.hid hTw
    replace oldIn := Lib.hid oldIn
    clear hq1 hq3 hr hct
    replace hk := Lib.hid hk
    by_cases hok : chkT ds = 0
    · rw [if_pos hok] at hby
      injection hby with e1 e2
      subst e1; subst e2
      have cW' : Calls Try.prog 16 #[.slice (some ⟨tb, toff, none⟩) x.cs.length cap, .int .i64 (k : Int), .int .i64 y.a, .int .i64 (cAt x.cs k).cut] w fun e w' => ∃ g c, e = .returned (.tuple #[.slice (some ⟨g, 0, none⟩) x.cs.length c, .int .i64 0]) ∧ Tab w' (some ⟨g, 0, none⟩) x.cs.length ds ∧ w.heap.size ≤ g ∧ Below w.heap.size w w' := cW.mono fun e w' h => by
        obtain ⟨hb, h | ⟨_, g, c, h1, h2, h3⟩⟩ := h
        · exact absurd hok h.1
        · exact ⟨g, c, h1, h2, h3, hb⟩
      replace cW' := Lib.hid cW'
      clear cW
      replace hok := Lib.hid hok
      go_wp2_with (first | (go_at_call 16; (with_reducible refine cW'.out.mono ?_); rintro e w9 ⟨g, c, rfl, hTd, hgf, hB9⟩; have hTn := Lib.hid (hT8.out.tab (q := none) hB9 (by rw [hll]; exact hTd) (by omega) hgf); replace hTd := Lib.hid hTd; replace hB9 := Lib.hid hB9))
      rw [← hll]
      refine hK.out (some ⟨g, 0, none⟩) c sb ls _ _ _ _ _ _ _ _ _ _ _ _ _ _ _ _ _ _ _ _ _ _ _ _ _ _ _ _ _ _ _ _ _ _ _ _ _ _ _ _ _ _ _ _ _ _ _ _ _ _ _ _ _ _ _ _ _ _ _ _ _ _ _ _ _ _ _ _ _ _ _ _ _ _ _ _ _ _ _ _ _ _ _ _ _ _ _ _ _ _ _ _ _ _ _ _ _ _ _ _ _ _ _ _ _ _ _ _ _ _ _ _ _ _ _ _ _ _ _ _ _ _ _ _ _ _ _ _ _ _ _ _ _ _ _ _ _ _ _ _ _ _ _ _ _ _ _ ?_ ?_
      · exact ⟨hTn.out, hg.out, hsz.out.1, hxn, hsn.out, hsy'.out⟩
      · exact Kp.of_below hB9.out
    · rw [if_neg hok] at hby
      injection hby with e1 e2
      subst e1; subst e2
      have cW' : Calls Try.prog 16 #[.slice (some ⟨tb, toff, none⟩) x.cs.length cap, .int .i64 (k : Int), .int .i64 y.a, .int .i64 (cAt x.cs k).cut] w fun e w' => e = .returned (.tuple #[.slice none 0 0, .int .i64 1]) ∧ Below w.heap.size w w' := cW.mono fun e w' h => by
        obtain ⟨hb, h | ⟨h1, _⟩⟩ := h
        · exact ⟨h.2, hb⟩
        · exact absurd h1 hok
      replace cW' := Lib.hid cW'
      clear cW
      replace hok := Lib.hid hok
      go_wp2_with (first | (go_at_call 16; (with_reducible refine cW'.out.mono ?_); rintro e w9 ⟨rfl, hB9⟩; replace hB9 := Lib.hid hB9))
      refine hK.out _ cap sb ls _ _ _ _ _ _ _ _ _ _ _ _ _ _ _ _ _ _ _ _ _ _ _ _ _ _ _ _ _ _ _ _ _ _ _ _ _ _ _ _ _ _ _ _ _ _ _ _ _ _ _ _ _ _ _ _ _ _ _ _ _ _ _ _ _ _ _ _ _ _ _ _ _ _ _ _ _ _ _ _ _ _ _ _ _ _ _ _ _ _ _ _ _ _ _ _ _ _ _ _ _ _ _ _ _ _ _ _ _ _ _ _ _ _ _ _ _ _ _ _ _ _ _ _ _ _ _ _ _ _ _ _ _ _ _ _ _ _ _ _ _ _ _ _ _ _ _ ?_ ?_
      · exact ⟨hT8.out.below hB9.out, hg.out, hsiz.out, hnm, hsn.out, hsy.out⟩
      · exact Kp.of_below hB9.out
  · have cW := withR_none p x.cs.length cap y.c y.a 0 w hr
    have e : x.rate y.c y.a = (1, x) := by unfold WM.rate; rw [if_neg hr]
    rw [e] at hq1 hq3
    dsimp only at hq1 hq3
    subst hq1; subst hq3
    replace cW := Lib.hid cW
    replace hTw := Lib.hid hTw
    clear e
    by_cases hneg : 0 ≤ y.c
    · have h5 : ¬ y.c < (x.cs.length : Int) := by omega
      go_wp2_with (first | (go_at_call 16; (with_reducible refine cW.out.mono ?_); rintro e w9 ⟨rfl, rfl⟩))
      refine hK.out _ cap sb ls _ _ _ _ _ _ _ _ _ _ _ _ _ _ _ _ _ _ _ _ _ _ _ _ _ _ _ _ _ _ _ _ _ _ _ _ _ _ _ _ _ _ _ _ _ _ _ _ _ _ _ _ _ _ _ _ _ _ _ _ _ _ _ _ _ _ _ _ _ _ _ _ _ _ _ _ _ _ _ _ _ _ _ _ _ _ _ _ _ _ _ _ _ _ _ _ _ _ _ _ _ _ _ _ _ _ _ _ _ _ _ _ _ _ _ _ _ _ _ _ _ _ _ _ _ _ _ _ _ _ _ _ _ _ _ _ _ _ _ _ _ _ _ _ _ _ _ ?_ ?_
      · exact ⟨hT8.out, hg.out, hsiz.out, hnm, hsn.out, hsy.out⟩
      · exact Kp.refl _ _
    · go_wp2_with (first | (go_at_call 16; (with_reducible refine cW.out.mono ?_); rintro e w9 ⟨rfl, rfl⟩))
      refine hK.out _ cap sb ls _ _ _ _ _ _ _ _ _ _ _ _ _ _ _ _ _ _ _ _ _ _ _ _ _ _ _ _ _ _ _ _ _ _ _ _ _ _ _ _ _ _ _ _ _ _ _ _ _ _ _ _ _ _ _ _ _ _ _ _ _ _ _ _ _ _ _ _ _ _ _ _ _ _ _ _ _ _ _ _ _ _ _ _ _ _ _ _ _ _ _ _ _ _ _ _ _ _ _ _ _ _ _ _ _ _ _ _ _ _ _ _ _ _ _ _ _ _ _ _ _ _ _ _ _ _ _ _ _ _ _ _ _ _ _ _ _ _ _ _ _ _ _ _ _ _ _ ?_ ?_
      · exact ⟨hT8.out, hg.out, hsiz.out, hnm, hsn.out, hsy.out⟩
      · exact Kp.refl _ _
end Go.Proofs.Ytllhpdohahoelaa
namespace Go.Proofs.Ytllhpdohahoelaa
open Go.RowKit
set_option linter.unusedVariables false

set_option maxHeartbeats 8000000 in
set_option maxRecDepth 100000 in
theorem sw_cut {K : Act → World → Prop} {Q : Exit → Act → World → Prop} {B1 : Nat → Prop} {lb b rb sb kb : Nat} {l l' : LM} {x x' : WM} {ls : LM} {p : Option Addr} {cap M : Nat} {y : WOp} {er : Int} {w : World}
    (hT8 : TG B1 lb b rb sb l' x' l ls p x.cs w) (hop : opW l x y = (er, l', x')) (hg : l.Good) (hsiz : Siz l x) (hM1 : 1 ≤ M ∧ M ≤ 16) (hnm : x.nm = M) (hsn : ls.nm = l.nm ∧ ls.nc = l.nc) (hsy : ∀ m, m < x.nm → x.S m = ls.B m)
    (hbx : OB w kb y) (hbB : B1 kb) (hrow : PRow w y.p y.len y.ps) (hyl : y.len ≤ 20) (ha : In64 y.a) (d3 : y.Do = 3)
    (u1 u2 u3 u4 u5 u6 u7 u8 u10 u11 u13 u14 u15 u17 u19 u21 u22 u23 u24 u25 u26 u27 u28 u29 u30 u31 u32 u33 u34 u35 u36 u37 u38 u39 u40 u41 u42 u43 u44 u45 u46 u47 u48 u49 u50 u51 u52 u53 u54 u55 u56 u57 u58 u59 u60 u61 u62 u63 u64 u65 u66 u67 u68 u69 u70 u71 u72 u73 u74 u75 u76 u77 u78 u79 u80 u81 u82 u83 u84 u85 u86 u87 u88 u89 u90 u91 u92 u93 u94 u95 u96 u97 u98 u99 u100 u101 u102 u103 u104 u105 u106 u107 u108 u109 u110 u111 u112 u113 u114 u115 u116 u117 u118 u120 u121 u122 u123 u124 u125 u126 u127 u128 u129 u130 u131 u132 u133 u134 u135 u136 u137 u138 u139 u140 u141 u142 u143 u144 u145 u146 u147 u148 u149 u150 u151 u152 u153 u154 u155 u156 u157 u158 u159 u160 u161 u162 u163 u164 u165 u166 u167 u168 u169 u170 u171 u172 u173 u174 u175 u176 u177 u178 u179 u180 u181 u182 u183 u184 u185 u186 u187 u188 u189 u190 u191 u192 u193 u194 u195 u196 u197 u198 u199 u200 u201 u202 u203 u204 u205 u206 u207 u208 u209 u210 u211 u212 u213 u214 u215 u216 u217 u218 u219 u220 u221 u222 u223 u224 u225 u226 u227 u228 u229 u230 u231 u232 u233 u234 u235 u236 u237 u238 u239 u240 u241 u242 u243 u244 u245 u246 u247 u248 u249 u250 u251 u252 u253 u254 u255 u256 u257 u258 u259 u260 u261 u262 u263 u264 u265 u266 u267 u268 u269 u270 u271 u272 u273 u274 u275 u276 u277 u278 u279 u280 u281 u282 u283 u284 u285 u286 u287 u288 u289 u290 u291 u292 u293 u294 u295 u296 u297 u298 u299 u300 u301 u302 u303 u304 u305 u306 u307 u308 u309 u310 u311 u312 u313 u314 u315 u316 u317 u318 u319 u320 u321 u322 u323 u324 u325 u326 u327 u328 u329 u330 u331 u332 u333 u334 u335 u336 u337 u338 u339 u340 u341 u342 u343 u344 u345 u346 u347 u348 u349 u350 u351 u352 u353 u354 u355 u356 u357 u358 u359 u360 u361 u362 u363 u364 u365 u366 u367 u368 u369 u370 u371 u372 u373 u374 u375 u376 u377 u378 u379 u380 u381 u382 u383 u384 u385 u386 u387 u388 u389 u390 u391 u392 : Value)
    (hK : ∀ (p' : Option Addr) (cap' sb' : Nat) (ls' : LM) (v21 v22 v23 v24 v25 v26 v120 v121 v122 v123 v124 v125 v126 v127 v128 v129 v130 v131 v132 v133 v134 v135 v136 v137 v138 v139 v140 v141 v142 v143 v144 v145 v146 v147 v148 v149 v150 v151 v152 v153 v154 v155 v156 v157 v158 v159 v160 v161 v162 v163 v164 v165 v166 v167 v168 v169 v170 v171 v172 v173 v174 v175 v176 v177 v178 v179 v180 v181 v182 v183 v184 v185 v186 v187 v188 v189 v190 v191 v192 v193 v194 v195 v196 v197 v198 v199 v200 v201 v202 v203 v204 v205 v206 v207 v208 v209 v210 v211 v212 v213 v214 v215 v216 v217 v218 v219 v220 v221 v222 v223 v224 v225 v226 v227 v228 v229 v230 v231 v232 v233 v234 v235 v236 v237 v238 v239 v240 v241 v242 v243 v244 v245 v246 v247 v248 v249 v250 v251 v252 v253 v254 v255 v256 v257 v258 v259 : Value) (w' : World), TLS B1 lb b rb sb' l' x' ls' p' M w' → Kp (fun j => ¬ B1 j) w w' → K ({ tmps := (Value.slice p' x'.cs.length cap' :: u1 :: u2 :: u3 :: u4 :: u5 :: u6 :: u7 :: u8 :: .int .i64 (M : Int) :: u10 :: u11 :: .pointer (some ⟨rb, 0, none⟩) :: u13 :: u14 :: u15 :: .pointer (some ⟨sb', 0, none⟩) :: u17 :: .pointer (some ⟨kb, 0, none⟩) :: u19 :: .int .i64 er :: v21 :: v22 :: v23 :: v24 :: v25 :: v26 :: u27 :: u28 :: u29 :: u30 :: u31 :: u32 :: u33 :: u34 :: u35 :: u36 :: u37 :: u38 :: u39 :: u40 :: u41 :: u42 :: u43 :: u44 :: u45 :: u46 :: u47 :: u48 :: u49 :: u50 :: u51 :: u52 :: u53 :: u54 :: u55 :: u56 :: u57 :: u58 :: u59 :: u60 :: u61 :: u62 :: u63 :: u64 :: u65 :: u66 :: u67 :: u68 :: u69 :: u70 :: u71 :: u72 :: u73 :: u74 :: u75 :: u76 :: u77 :: u78 :: u79 :: u80 :: u81 :: u82 :: u83 :: u84 :: u85 :: u86 :: u87 :: u88 :: u89 :: u90 :: u91 :: u92 :: u93 :: u94 :: u95 :: u96 :: u97 :: u98 :: u99 :: u100 :: u101 :: u102 :: u103 :: u104 :: u105 :: u106 :: u107 :: u108 :: u109 :: u110 :: u111 :: u112 :: u113 :: u114 :: u115 :: u116 :: u117 :: u118 :: .int .i64 y.Do :: v120 :: v121 :: v122 :: v123 :: v124 :: v125 :: v126 :: v127 :: v128 :: v129 :: v130 :: v131 :: v132 :: v133 :: v134 :: v135 :: v136 :: v137 :: v138 :: v139 :: v140 :: v141 :: v142 :: v143 :: v144 :: v145 :: v146 :: v147 :: v148 :: v149 :: v150 :: v151 :: v152 :: v153 :: v154 :: v155 :: v156 :: v157 :: v158 :: v159 :: v160 :: v161 :: v162 :: v163 :: v164 :: v165 :: v166 :: v167 :: v168 :: v169 :: v170 :: v171 :: v172 :: v173 :: v174 :: v175 :: v176 :: v177 :: v178 :: v179 :: v180 :: v181 :: v182 :: v183 :: v184 :: v185 :: v186 :: v187 :: v188 :: v189 :: v190 :: v191 :: v192 :: v193 :: v194 :: v195 :: v196 :: v197 :: v198 :: v199 :: v200 :: v201 :: v202 :: v203 :: v204 :: v205 :: v206 :: v207 :: v208 :: v209 :: v210 :: v211 :: v212 :: v213 :: v214 :: v215 :: v216 :: v217 :: v218 :: v219 :: v220 :: v221 :: v222 :: v223 :: v224 :: v225 :: v226 :: v227 :: v228 :: v229 :: v230 :: v231 :: v232 :: v233 :: v234 :: v235 :: v236 :: v237 :: v238 :: v239 :: v240 :: v241 :: v242 :: v243 :: v244 :: v245 :: v246 :: v247 :: v248 :: v249 :: v250 :: v251 :: v252 :: v253 :: v254 :: v255 :: v256 :: v257 :: v258 :: v259 :: u260 :: u261 :: u262 :: u263 :: u264 :: u265 :: u266 :: u267 :: u268 :: u269 :: u270 :: u271 :: u272 :: u273 :: u274 :: u275 :: u276 :: u277 :: u278 :: u279 :: u280 :: u281 :: u282 :: u283 :: u284 :: u285 :: u286 :: u287 :: u288 :: u289 :: u290 :: u291 :: u292 :: u293 :: u294 :: u295 :: u296 :: u297 :: u298 :: u299 :: u300 :: u301 :: u302 :: u303 :: u304 :: u305 :: u306 :: u307 :: u308 :: u309 :: u310 :: u311 :: u312 :: u313 :: u314 :: u315 :: u316 :: u317 :: u318 :: u319 :: u320 :: u321 :: u322 :: u323 :: u324 :: u325 :: u326 :: u327 :: u328 :: u329 :: u330 :: u331 :: u332 :: u333 :: u334 :: u335 :: u336 :: u337 :: u338 :: u339 :: u340 :: u341 :: u342 :: u343 :: u344 :: u345 :: u346 :: u347 :: u348 :: u349 :: u350 :: u351 :: u352 :: u353 :: u354 :: u355 :: u356 :: u357 :: u358 :: u359 :: u360 :: u361 :: u362 :: u363 :: u364 :: u365 :: u366 :: u367 :: u368 :: u369 :: u370 :: u371 :: u372 :: u373 :: u374 :: u375 :: u376 :: u377 :: u378 :: u379 :: u380 :: u381 :: u382 :: u383 :: u384 :: u385 :: u386 :: u387 :: u388 :: u389 :: u390 :: u391 :: u392 :: []).toArray, defers := [] } : Act) w') :
    Code.wp Try.prog cswitch (Exit.then K Q) ({ tmps := (Value.slice p x.cs.length cap :: u1 :: u2 :: u3 :: u4 :: u5 :: u6 :: u7 :: u8 :: .int .i64 (M : Int) :: u10 :: u11 :: .pointer (some ⟨rb, 0, none⟩) :: u13 :: u14 :: u15 :: .pointer (some ⟨sb, 0, none⟩) :: u17 :: .pointer (some ⟨kb, 0, none⟩) :: u19 :: .int .i64 0 :: u21 :: u22 :: u23 :: u24 :: u25 :: u26 :: u27 :: u28 :: u29 :: u30 :: u31 :: u32 :: u33 :: u34 :: u35 :: u36 :: u37 :: u38 :: u39 :: u40 :: u41 :: u42 :: u43 :: u44 :: u45 :: u46 :: u47 :: u48 :: u49 :: u50 :: u51 :: u52 :: u53 :: u54 :: u55 :: u56 :: u57 :: u58 :: u59 :: u60 :: u61 :: u62 :: u63 :: u64 :: u65 :: u66 :: u67 :: u68 :: u69 :: u70 :: u71 :: u72 :: u73 :: u74 :: u75 :: u76 :: u77 :: u78 :: u79 :: u80 :: u81 :: u82 :: u83 :: u84 :: u85 :: u86 :: u87 :: u88 :: u89 :: u90 :: u91 :: u92 :: u93 :: u94 :: u95 :: u96 :: u97 :: u98 :: u99 :: u100 :: u101 :: u102 :: u103 :: u104 :: u105 :: u106 :: u107 :: u108 :: u109 :: u110 :: u111 :: u112 :: u113 :: u114 :: u115 :: u116 :: u117 :: u118 :: .int .i64 y.Do :: u120 :: u121 :: u122 :: u123 :: u124 :: u125 :: u126 :: u127 :: u128 :: u129 :: u130 :: u131 :: u132 :: u133 :: u134 :: u135 :: u136 :: u137 :: u138 :: u139 :: u140 :: u141 :: u142 :: u143 :: u144 :: u145 :: u146 :: u147 :: u148 :: u149 :: u150 :: u151 :: u152 :: u153 :: u154 :: u155 :: u156 :: u157 :: u158 :: u159 :: u160 :: u161 :: u162 :: u163 :: u164 :: u165 :: u166 :: u167 :: u168 :: u169 :: u170 :: u171 :: u172 :: u173 :: u174 :: u175 :: u176 :: u177 :: u178 :: u179 :: u180 :: u181 :: u182 :: u183 :: u184 :: u185 :: u186 :: u187 :: u188 :: u189 :: u190 :: u191 :: u192 :: u193 :: u194 :: u195 :: u196 :: u197 :: u198 :: u199 :: u200 :: u201 :: u202 :: u203 :: u204 :: u205 :: u206 :: u207 :: u208 :: u209 :: u210 :: u211 :: u212 :: u213 :: u214 :: u215 :: u216 :: u217 :: u218 :: u219 :: u220 :: u221 :: u222 :: u223 :: u224 :: u225 :: u226 :: u227 :: u228 :: u229 :: u230 :: u231 :: u232 :: u233 :: u234 :: u235 :: u236 :: u237 :: u238 :: u239 :: u240 :: u241 :: u242 :: u243 :: u244 :: u245 :: u246 :: u247 :: u248 :: u249 :: u250 :: u251 :: u252 :: u253 :: u254 :: u255 :: u256 :: u257 :: u258 :: u259 :: u260 :: u261 :: u262 :: u263 :: u264 :: u265 :: u266 :: u267 :: u268 :: u269 :: u270 :: u271 :: u272 :: u273 :: u274 :: u275 :: u276 :: u277 :: u278 :: u279 :: u280 :: u281 :: u282 :: u283 :: u284 :: u285 :: u286 :: u287 :: u288 :: u289 :: u290 :: u291 :: u292 :: u293 :: u294 :: u295 :: u296 :: u297 :: u298 :: u299 :: u300 :: u301 :: u302 :: u303 :: u304 :: u305 :: u306 :: u307 :: u308 :: u309 :: u310 :: u311 :: u312 :: u313 :: u314 :: u315 :: u316 :: u317 :: u318 :: u319 :: u320 :: u321 :: u322 :: u323 :: u324 :: u325 :: u326 :: u327 :: u328 :: u329 :: u330 :: u331 :: u332 :: u333 :: u334 :: u335 :: u336 :: u337 :: u338 :: u339 :: u340 :: u341 :: u342 :: u343 :: u344 :: u345 :: u346 :: u347 :: u348 :: u349 :: u350 :: u351 :: u352 :: u353 :: u354 :: u355 :: u356 :: u357 :: u358 :: u359 :: u360 :: u361 :: u362 :: u363 :: u364 :: u365 :: u366 :: u367 :: u368 :: u369 :: u370 :: u371 :: u372 :: u373 :: u374 :: u375 :: u376 :: u377 :: u378 :: u379 :: u380 :: u381 :: u382 :: u383 :: u384 :: u385 :: u386 :: u387 :: u388 :: u389 :: u390 :: u391 :: u392 :: []).toArray, defers := [] } : Act) w := by
  have hkl := obj_lt hbx
  obtain ⟨y0, y1, y2, y3, y4⟩ := hbx.cells
  have hc0 : 0 < x.cs.length := by obtain ⟨_, _, _, h⟩ := hT8; exact h.tn
  have hc8 : x'.cs.length ≤ 8 := by obtain ⟨_, _, _, h⟩ := hT8; obtain ⟨P, hP⟩ := h.a.wp; exact (chk_ok hP.chk).2.1
  have hsz := opW_siz hg hsiz y
  have hgd := opW_good hg x y
  rw [hop] at hsz hgd
  dsimp only at hsz hgd
  replace hK := Lib.hid hK
  replace hT8 := Lib.hid hT8
  replace hg := Lib.hid hg
  replace hsiz := Lib.hid hsiz
  replace hsn := Lib.hid hsn
  replace hsy := Lib.hid hsy
  replace hbx := Lib.hid hbx
  replace hrow := Lib.hid hrow
  replace hsz := Lib.hid hsz
  replace hgd := Lib.hid hgd
  have d0 : y.Do ≠ 0 := by omega
  have d4 : y.Do ≠ 4 := by omega
  have d1 : y.Do ≠ 1 := by omega
  have d2 : y.Do ≠ 2 := by omega
  have hq := hop
  unfold opW at hq
  rw [if_neg d0, if_neg d4, if_neg d1, if_neg d2, if_pos d3] at hq
  injection hq with hq1 hq2
  injection hq2 with hq2 hq3
  subst hq2
  have b3 : (y.Do == 3) = true := by simpa using d3
  have b0 : (y.Do == 0) = false := by simpa using d0
  have b4 : (y.Do == 4) = false := by simpa using d4
  have b1 : (y.Do == 1) = false := by simpa using d1
  have b2 : (y.Do == 2) = false := by simpa using d2
  have hTw : Tab w p x.cs.length x.cs := by obtain ⟨_, _, _, h⟩ := hT8.out; exact h.t
  have hc8x : x.cs.length ≤ 1000 := by have := (cutt_nm x y.c y.a).2.2; rw [hq3] at this; omega
  have hfnm := cutt_nm x y.c y.a
  rw [hq3] at hfnm
  have hxn : x'.nm = M := hfnm.1.trans hnm
  have hsy' : ∀ m, m < x'.nm → x'.S m = ls.B m := fun m hm => by rw [hfnm.2.1]; exact hsy.out m (by rw [← hfnm.1]; exact hm)
  replace hop := Lib.hid hop
  replace hsy' := Lib.hid hsy'
  replace d0 := Lib.hid d0
  replace d4 := Lib.hid d4
  replace d1 := Lib.hid d1
  replace d2 := Lib.hid d2
  replace d3 := Lib.hid d3
  conv => arg 2; whnf
  by_cases hr : 0 ≤ y.c ∧ y.c < x.cs.length
  · obtain ⟨k, hk⟩ : ∃ k : Nat, y.c = k := ⟨y.c.toNat, by omega⟩
    have hkc : k < x.cs.length := by omega
    have hkz : (k : Int) < (x.cs.length : Int) := by omega
    have hct : y.c.toNat = k := by omega
    have oldIn : Amt (cAt x.cs k).rate := (hTw.2.1 k).2.1
    have cW := withR_any p x.cs.length cap x.cs k (cAt x.cs k).rate y.a w hTw hkc hc8x oldIn ha
    have hby : x.by (x.cs.set k ⟨(cAt x.cs k).code, (cAt x.cs k).rate, y.a⟩) = (er, x') := by
      have e : x.cutt y.c y.a = x.by (x.cs.set k ⟨(cAt x.cs k).code, (cAt x.cs k).rate, y.a⟩) := by unfold WM.cutt; rw [if_pos hr, hct]
      rw [← e, ← hq1, ← hq3]
    have hll : (x.cs.set k ⟨(cAt x.cs k).code, (cAt x.cs k).rate, y.a⟩).length = x.cs.length := List.length_set ..
    generalize x.cs.set k ⟨(cAt x.cs k).code, (cAt x.cs k).rate, y.a⟩ = ds at *
    obtain ⟨_, _, _, hcc⟩ := id hTw
    obtain ⟨tb, toff, rfl, htl, hcc⟩ := hcc.resolve_left (by omega)
    obtain ⟨z0, z1, z2⟩ := hcc k hkc
    rw [hk] at y2
    unfold WM.by at hby
    replace hcc := Lib.hid hcc
    replace hTw := Lib.hid hTw
    replace oldIn := Lib.hid oldIn
    clear hq1 hq3 hr hct
    replace hk := Lib.hid hk
    by_cases hok : chkT ds = 0
    · rw [if_pos hok] at hby
      injection hby with e1 e2
      subst e1; subst e2
      have cW' : Calls Try.prog 16 #[.slice (some ⟨tb, toff, none⟩) x.cs.length cap, .int .i64 (k : Int), .int .i64 (cAt x.cs k).rate, .int .i64 y.a] w fun e w' => ∃ g c, e = .returned (.tuple #[.slice (some ⟨g, 0, none⟩) x.cs.length c, .int .i64 0]) ∧ Tab w' (some ⟨g, 0, none⟩) x.cs.length ds ∧ w.heap.size ≤ g ∧ Below w.heap.size w w' := cW.mono fun e w' h => by
        obtain ⟨hb, h | ⟨_, g, c, h1, h2, h3⟩⟩ := h
        · exact absurd hok h.1
        · exact ⟨g, c, h1, h2, h3, hb⟩
      replace cW' := Lib.hid cW'
      clear cW
      replace hok := Lib.hid hok
      go_wp2_with (first | (go_at_call 16; (with_reducible refine cW'.out.mono ?_); rintro e w9 ⟨g, c, rfl, hTd, hgf, hB9⟩; have hTn := Lib.hid (hT8.out.tab (q := none) hB9 (by rw [hll]; exact hTd) (by omega) hgf); replace hTd := Lib.hid hTd; replace hB9 := Lib.hid hB9))
      rw [← hll]
      refine hK.out (some ⟨g, 0, none⟩) c sb ls _ _ _ _ _ _ _ _ _ _ _ _ _ _ _ _ _ _ _ _ _ _ _ _ _ _ _ _ _ _ _ _ _ _ _ _ _ _ _ _ _ _ _ _ _ _ _ _ _ _ _ _ _ _ _ _ _ _ _ _ _ _ _ _ _ _ _ _ _ _ _ _ _ _ _ _ _ _ _ _ _ _ _ _ _ _ _ _ _ _ _ _ _ _ _ _ _ _ _ _ _ _ _ _ _ _ _ _ _ _ _ _ _ _ _ _ _ _ _ _ _ _ _ _ _ _ _ _ _ _ _ _ _ _ _ _ _ _ _ _ _ _ _ _ _ _ _ ?_ ?_
      · exact ⟨hTn.out, hg.out, hsz.out.1, hxn, hsn.out, hsy'.out⟩
      · exact Kp.of_below hB9.out
    · rw [if_neg hok] at hby
      injection hby with e1 e2
      subst e1; subst e2
      have cW' : Calls Try.prog 16 #[.slice (some ⟨tb, toff, none⟩) x.cs.length cap, .int .i64 (k : Int), .int .i64 (cAt x.cs k).rate, .int .i64 y.a] w fun e w' => e = .returned (.tuple #[.slice none 0 0, .int .i64 1]) ∧ Below w.heap.size w w' := cW.mono fun e w' h => by
        obtain ⟨hb, h | ⟨h1, _⟩⟩ := h
        · exact ⟨h.2, hb⟩
        · exact absurd h1 hok
      replace cW' := Lib.hid cW'
      clear cW
      replace hok := Lib.hid hok
      go_wp2_with (first | (go_at_call 16; (with_reducible refine cW'.out.mono ?_); rintro e w9 ⟨rfl, hB9⟩; replace hB9 := Lib.hid hB9))
      refine hK.out _ cap sb ls _ _ _ _ _ _ _ _ _ _ _ _ _ _ _ _ _ _ _ _ _ _ _ _ _ _ _ _ _ _ _ _ _ _ _ _ _ _ _ _ _ _ _ _ _ _ _ _ _ _ _ _ _ _ _ _ _ _ _ _ _ _ _ _ _ _ _ _ _ _ _ _ _ _ _ _ _ _ _ _ _ _ _ _ _ _ _ _ _ _ _ _ _ _ _ _ _ _ _ _ _ _ _ _ _ _ _ _ _ _ _ _ _ _ _ _ _ _ _ _ _ _ _ _ _ _ _ _ _ _ _ _ _ _ _ _ _ _ _ _ _ _ _ _ _ _ _ ?_ ?_
      · exact ⟨hT8.out.below hB9.out, hg.out, hsiz.out, hnm, hsn.out, hsy.out⟩
      · exact Kp.of_below hB9.out
  · have cW := withR_none p x.cs.length cap y.c 0 y.a w hr
    have e : x.cutt y.c y.a = (1, x) := by unfold WM.cutt; rw [if_neg hr]
    rw [e] at hq1 hq3
    dsimp only at hq1 hq3
    subst hq1; subst hq3
    replace cW := Lib.hid cW
    replace hTw := Lib.hid hTw
    clear e
    by_cases hneg : 0 ≤ y.c
    · have h5 : ¬ y.c < (x.cs.length : Int) := by omega
      go_wp2_with (first | (go_at_call 16; (with_reducible refine cW.out.mono ?_); rintro e w9 ⟨rfl, rfl⟩))
      refine hK.out _ cap sb ls _ _ _ _ _ _ _ _ _ _ _ _ _ _ _ _ _ _ _ _ _ _ _ _ _ _ _ _ _ _ _ _ _ _ _ _ _ _ _ _ _ _ _ _ _ _ _ _ _ _ _ _ _ _ _ _ _ _ _ _ _ _ _ _ _ _ _ _ _ _ _ _ _ _ _ _ _ _ _ _ _ _ _ _ _ _ _ _ _ _ _ _ _ _ _ _ _ _ _ _ _ _ _ _ _ _ _ _ _ _ _ _ _ _ _ _ _ _ _ _ _ _ _ _ _ _ _ _ _ _ _ _ _ _ _ _ _ _ _ _ _ _ _ _ _ _ _ ?_ ?_
      · exact ⟨hT8.out, hg.out, hsiz.out, hnm, hsn.out, hsy.out⟩
      · exact Kp.refl _ _
    · go_wp2_with (first | (go_at_call 16; (with_reducible refine cW.out.mono ?_); rintro e w9 ⟨rfl, rfl⟩))
      refine hK.out _ cap sb ls _ _ _ _ _ _ _ _ _ _ _ _ _ _ _ _ _ _ _ _ _ _ _ _ _ _ _ _ _ _ _ _ _ _ _ _ _ _ _ _ _ _ _ _ _ _ _ _ _ _ _ _ _ _ _ _ _ _ _ _ _ _ _ _ _ _ _ _ _ _ _ _ _ _ _ _ _ _ _ _ _ _ _ _ _ _ _ _ _ _ _ _ _ _ _ _ _ _ _ _ _ _ _ _ _ _ _ _ _ _ _ _ _ _ _ _ _ _ _ _ _ _ _ _ _ _ _ _ _ _ _ _ _ _ _ _ _ _ _ _ _ _ _ _ _ _ _ ?_ ?_
      · exact ⟨hT8.out, hg.out, hsiz.out, hnm, hsn.out, hsy.out⟩
      · exact Kp.refl _ _
end Go.Proofs.Ytllhpdohahoelaa
