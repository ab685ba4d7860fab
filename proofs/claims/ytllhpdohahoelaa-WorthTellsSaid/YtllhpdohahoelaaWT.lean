/- One round of the law's operations, apart.
  What members are worth, operation by operation: the law's walk. -/
import Derived.Test.YtllhpdohahoelaaWYd
import Derived.Test.YtllhpdohahoelaaWY1
namespace Go.Proofs.Ytllhpdohahoelaa
open Go.RowKit
set_option linter.unusedVariables false

noncomputable def conce : Code := cpath [1, 1, 1, 1, 1, 1, 1, 1, 1, 1, 0, 1, 2, 3, 1, 1, 0] (cbody Try.f3.body)
set_option maxHeartbeats 8000000 in
set_option maxRecDepth 100000 in
theorem round_any {K : Act → World → Prop} {Q : Exit → Act → World → Prop} {lb b rb sb' : Nat} {l : LM} {x : WM} {ls : LM} {p' q q2 : Option Addr} {cap' n n2 c2 c3 k M : Nat} {ops : List WOp} {mps : List Pst} {w1 wr : World}
    (hS : TLS (fun j => j < w1.heap.size) lb b rb sb' l x ls p' M wr) (hBw : Below w1.heap.size w1 wr) (ho1 : OpsW w1 q n ops) (hm1 : PRow w1 q2 n2 mps) (hc1 : manyO ops = false) (hkn : k < n) (hn30 : n ≤ 30) (hm20 : ¬ 20 < n2) (hM1 : 1 ≤ M ∧ M ≤ 16)
    (u1 u2 u4 u5 u6 u7 u8 u11 u13 u15 u17 u18 u19 u20 u21 u22 u23 u24 u25 u26 u27 u28 u29 u30 u31 u32 u33 u34 u35 u36 u37 u38 u39 u40 u41 u42 u43 u44 u45 u46 u47 u48 u49 u50 u51 u52 u53 u54 u55 u56 u57 u58 u59 u60 u61 u62 u63 u64 u65 u66 u67 u68 u69 u70 u71 u72 u73 u74 u75 u76 u77 u78 u79 u80 u81 u82 u83 u84 u85 u86 u87 u88 u89 u90 u91 u92 u93 u94 u95 u96 u97 u98 u99 u100 u101 u102 u103 u104 u105 u106 u108 u110 u111 u112 u113 u114 u115 u116 u117 u118 u119 u120 u121 u122 u123 u124 u125 u126 u127 u128 u129 u130 u131 u132 u133 u134 u135 u136 u137 u138 u139 u140 u141 u142 u143 u144 u145 u146 u147 u148 u149 u150 u151 u152 u153 u154 u155 u156 u157 u158 u159 u160 u161 u162 u163 u164 u165 u166 u167 u168 u169 u170 u171 u172 u173 u174 u175 u176 u177 u178 u179 u180 u181 u182 u183 u184 u185 u186 u187 u188 u189 u190 u191 u192 u193 u194 u195 u196 u197 u198 u199 u200 u201 u202 u203 u204 u205 u206 u207 u208 u209 u210 u211 u212 u213 u214 u215 u216 u217 u218 u219 u220 u221 u222 u223 u224 u225 u226 u227 u228 u229 u230 u231 u232 u233 u234 u235 u236 u237 u238 u239 u240 u241 u242 u243 u244 u245 u246 u247 u248 u249 u250 u251 u252 u253 u254 u255 u256 u257 u258 u259 u260 u261 u262 u263 u264 u265 u266 u267 u268 u269 u270 u271 u272 u273 u274 u275 u276 u277 u278 u279 u280 u281 u282 u283 u284 u285 u286 u287 u288 u289 u290 u291 u292 u293 u294 u295 u296 u297 u298 u299 u300 u301 u302 u303 u304 u305 u306 u307 u308 u309 u310 u311 u312 u313 u314 u315 u316 u317 u318 u319 u320 u321 u322 u323 u324 u325 u326 u327 u328 u329 u330 u331 u332 u333 u334 u335 u336 u337 u338 u339 u340 u341 u342 u343 u344 u345 u346 u347 u348 u349 u350 u351 u352 u353 u354 u355 u356 u357 u358 u359 u360 u361 u362 u363 u364 u365 u366 u367 u368 u369 u370 u371 u372 u373 u374 u375 u376 u377 u378 u379 u380 u381 u382 u383 u384 u385 u386 u387 u388 u389 u390 u391 u392 : Value)
    (hK : ∀ (l' : LM) (x' : WM) (ls' : LM) (p'' : Option Addr) (cap'' sb'' : Nat) (v8 v18 v19 v20 v21 v22 v23 v24 v25 v26 v27 v28 v29 v30 v31 v32 v33 v34 v35 v36 v37 v38 v39 v40 v41 v111 v112 v113 v114 v115 v116 v117 v118 v119 v120 v121 v122 v123 v124 v125 v126 v127 v128 v129 v130 v131 v132 v133 v134 v135 v136 v137 v138 v139 v140 v141 v142 v143 v144 v145 v146 v147 v148 v149 v150 v151 v152 v153 v154 v155 v156 v157 v158 v159 v160 v161 v162 v163 v164 v165 v166 v167 v168 v169 v170 v171 v172 v173 v174 v175 v176 v177 v178 v179 v180 v181 v182 v183 v184 v185 v186 v187 v188 v189 v190 v191 v192 v193 v194 v195 v196 v197 v198 v199 v200 v201 v202 v203 v204 v205 v206 v207 v208 v209 v210 v211 v212 v213 v214 v215 v216 v217 v218 v219 v220 v221 v222 v223 v224 v225 v226 v227 v228 v229 v230 v231 v232 v233 v234 v235 v236 v237 v238 v239 v240 v241 v242 v243 v244 v245 v246 v247 v248 v249 v250 v251 v252 v253 v254 v255 v256 v257 v258 v259 v260 v261 v262 v263 v264 v265 v266 v267 v268 v269 v270 v271 v272 v273 v274 v275 v276 v277 v278 v279 v280 v281 v282 v283 v284 v285 v286 v287 v288 v289 v290 v291 v292 v293 v294 v295 v296 v297 v298 v299 v300 v301 v302 v303 v304 v305 v306 v307 v308 v309 v310 v311 v312 v313 v314 v315 v316 v317 v318 v319 v320 v321 v322 v323 v324 v325 v326 v327 v328 v329 v330 v331 v332 v333 v334 v335 v336 v337 v338 v339 v340 v341 v342 v343 v344 v345 v346 v347 v348 v349 v350 v351 v352 v353 v354 v355 v356 v357 v358 v359 v360 v361 v362 v363 v364 v365 v366 v367 v368 v369 v370 v371 v372 v373 v374 v375 v376 v377 v378 v379 v380 v381 v382 v383 v384 v385 v386 v387 v388 v389 v390 v391 : Value) (w' : World), TLS (fun j => j < w1.heap.size) lb b rb sb'' l' x' ls' p'' M w' → Below w1.heap.size w1 w' → K ({ tmps := (Value.slice p'' x'.cs.length cap'' :: u1 :: u2 :: Value.slice q2 n2 c3 :: u4 :: u5 :: u6 :: u7 :: v8 :: .int .i64 (M : Int) :: .pointer (some ⟨lb, 0, none⟩) :: u11 :: .pointer (some ⟨rb, 0, none⟩) :: u13 :: .pointer (some ⟨b, 0, none⟩) :: u15 :: .pointer (some ⟨sb'', 0, none⟩) :: u17 :: v18 :: v19 :: v20 :: v21 :: v22 :: v23 :: v24 :: v25 :: v26 :: v27 :: v28 :: v29 :: v30 :: v31 :: v32 :: v33 :: v34 :: v35 :: v36 :: v37 :: v38 :: v39 :: v40 :: v41 :: u42 :: u43 :: u44 :: u45 :: u46 :: u47 :: u48 :: u49 :: u50 :: u51 :: u52 :: u53 :: u54 :: u55 :: u56 :: u57 :: u58 :: u59 :: u60 :: u61 :: u62 :: u63 :: u64 :: u65 :: u66 :: u67 :: u68 :: u69 :: u70 :: u71 :: u72 :: u73 :: u74 :: u75 :: u76 :: u77 :: u78 :: u79 :: u80 :: u81 :: u82 :: u83 :: u84 :: u85 :: u86 :: u87 :: u88 :: u89 :: u90 :: u91 :: u92 :: u93 :: u94 :: u95 :: u96 :: u97 :: u98 :: u99 :: u100 :: u101 :: u102 :: u103 :: u104 :: u105 :: u106 :: Value.slice q n c2 :: u108 :: .int .i64 (k : Int) :: u110 :: v111 :: v112 :: v113 :: v114 :: v115 :: v116 :: v117 :: v118 :: v119 :: v120 :: v121 :: v122 :: v123 :: v124 :: v125 :: v126 :: v127 :: v128 :: v129 :: v130 :: v131 :: v132 :: v133 :: v134 :: v135 :: v136 :: v137 :: v138 :: v139 :: v140 :: v141 :: v142 :: v143 :: v144 :: v145 :: v146 :: v147 :: v148 :: v149 :: v150 :: v151 :: v152 :: v153 :: v154 :: v155 :: v156 :: v157 :: v158 :: v159 :: v160 :: v161 :: v162 :: v163 :: v164 :: v165 :: v166 :: v167 :: v168 :: v169 :: v170 :: v171 :: v172 :: v173 :: v174 :: v175 :: v176 :: v177 :: v178 :: v179 :: v180 :: v181 :: v182 :: v183 :: v184 :: v185 :: v186 :: v187 :: v188 :: v189 :: v190 :: v191 :: v192 :: v193 :: v194 :: v195 :: v196 :: v197 :: v198 :: v199 :: v200 :: v201 :: v202 :: v203 :: v204 :: v205 :: v206 :: v207 :: v208 :: v209 :: v210 :: v211 :: v212 :: v213 :: v214 :: v215 :: v216 :: v217 :: v218 :: v219 :: v220 :: v221 :: v222 :: v223 :: v224 :: v225 :: v226 :: v227 :: v228 :: v229 :: v230 :: v231 :: v232 :: v233 :: v234 :: v235 :: v236 :: v237 :: v238 :: v239 :: v240 :: v241 :: v242 :: v243 :: v244 :: v245 :: v246 :: v247 :: v248 :: v249 :: v250 :: v251 :: v252 :: v253 :: v254 :: v255 :: v256 :: v257 :: v258 :: v259 :: v260 :: v261 :: v262 :: v263 :: v264 :: v265 :: v266 :: v267 :: v268 :: v269 :: v270 :: v271 :: v272 :: v273 :: v274 :: v275 :: v276 :: v277 :: v278 :: v279 :: v280 :: v281 :: v282 :: v283 :: v284 :: v285 :: v286 :: v287 :: v288 :: v289 :: v290 :: v291 :: v292 :: v293 :: v294 :: v295 :: v296 :: v297 :: v298 :: v299 :: v300 :: v301 :: v302 :: v303 :: v304 :: v305 :: v306 :: v307 :: v308 :: v309 :: v310 :: v311 :: v312 :: v313 :: v314 :: v315 :: v316 :: v317 :: v318 :: v319 :: v320 :: v321 :: v322 :: v323 :: v324 :: v325 :: v326 :: v327 :: v328 :: v329 :: v330 :: v331 :: v332 :: v333 :: v334 :: v335 :: v336 :: v337 :: v338 :: v339 :: v340 :: v341 :: v342 :: v343 :: v344 :: v345 :: v346 :: v347 :: v348 :: v349 :: v350 :: v351 :: v352 :: v353 :: v354 :: v355 :: v356 :: v357 :: v358 :: v359 :: v360 :: v361 :: v362 :: v363 :: v364 :: v365 :: v366 :: v367 :: v368 :: v369 :: v370 :: v371 :: v372 :: v373 :: v374 :: v375 :: v376 :: v377 :: v378 :: v379 :: v380 :: v381 :: v382 :: v383 :: v384 :: v385 :: v386 :: v387 :: v388 :: v389 :: v390 :: v391 :: u392 :: []).toArray, defers := [] } : Act) w') :
    Code.wp Try.prog conce (Exit.then K Q) ({ tmps := (Value.slice p' x.cs.length cap' :: u1 :: u2 :: Value.slice q2 n2 c3 :: u4 :: u5 :: u6 :: u7 :: u8 :: .int .i64 (M : Int) :: .pointer (some ⟨lb, 0, none⟩) :: u11 :: .pointer (some ⟨rb, 0, none⟩) :: u13 :: .pointer (some ⟨b, 0, none⟩) :: u15 :: .pointer (some ⟨sb', 0, none⟩) :: u17 :: u18 :: u19 :: u20 :: u21 :: u22 :: u23 :: u24 :: u25 :: u26 :: u27 :: u28 :: u29 :: u30 :: u31 :: u32 :: u33 :: u34 :: u35 :: u36 :: u37 :: u38 :: u39 :: u40 :: u41 :: u42 :: u43 :: u44 :: u45 :: u46 :: u47 :: u48 :: u49 :: u50 :: u51 :: u52 :: u53 :: u54 :: u55 :: u56 :: u57 :: u58 :: u59 :: u60 :: u61 :: u62 :: u63 :: u64 :: u65 :: u66 :: u67 :: u68 :: u69 :: u70 :: u71 :: u72 :: u73 :: u74 :: u75 :: u76 :: u77 :: u78 :: u79 :: u80 :: u81 :: u82 :: u83 :: u84 :: u85 :: u86 :: u87 :: u88 :: u89 :: u90 :: u91 :: u92 :: u93 :: u94 :: u95 :: u96 :: u97 :: u98 :: u99 :: u100 :: u101 :: u102 :: u103 :: u104 :: u105 :: u106 :: Value.slice q n c2 :: u108 :: .int .i64 (k : Int) :: u110 :: u111 :: u112 :: u113 :: u114 :: u115 :: u116 :: u117 :: u118 :: u119 :: u120 :: u121 :: u122 :: u123 :: u124 :: u125 :: u126 :: u127 :: u128 :: u129 :: u130 :: u131 :: u132 :: u133 :: u134 :: u135 :: u136 :: u137 :: u138 :: u139 :: u140 :: u141 :: u142 :: u143 :: u144 :: u145 :: u146 :: u147 :: u148 :: u149 :: u150 :: u151 :: u152 :: u153 :: u154 :: u155 :: u156 :: u157 :: u158 :: u159 :: u160 :: u161 :: u162 :: u163 :: u164 :: u165 :: u166 :: u167 :: u168 :: u169 :: u170 :: u171 :: u172 :: u173 :: u174 :: u175 :: u176 :: u177 :: u178 :: u179 :: u180 :: u181 :: u182 :: u183 :: u184 :: u185 :: u186 :: u187 :: u188 :: u189 :: u190 :: u191 :: u192 :: u193 :: u194 :: u195 :: u196 :: u197 :: u198 :: u199 :: u200 :: u201 :: u202 :: u203 :: u204 :: u205 :: u206 :: u207 :: u208 :: u209 :: u210 :: u211 :: u212 :: u213 :: u214 :: u215 :: u216 :: u217 :: u218 :: u219 :: u220 :: u221 :: u222 :: u223 :: u224 :: u225 :: u226 :: u227 :: u228 :: u229 :: u230 :: u231 :: u232 :: u233 :: u234 :: u235 :: u236 :: u237 :: u238 :: u239 :: u240 :: u241 :: u242 :: u243 :: u244 :: u245 :: u246 :: u247 :: u248 :: u249 :: u250 :: u251 :: u252 :: u253 :: u254 :: u255 :: u256 :: u257 :: u258 :: u259 :: u260 :: u261 :: u262 :: u263 :: u264 :: u265 :: u266 :: u267 :: u268 :: u269 :: u270 :: u271 :: u272 :: u273 :: u274 :: u275 :: u276 :: u277 :: u278 :: u279 :: u280 :: u281 :: u282 :: u283 :: u284 :: u285 :: u286 :: u287 :: u288 :: u289 :: u290 :: u291 :: u292 :: u293 :: u294 :: u295 :: u296 :: u297 :: u298 :: u299 :: u300 :: u301 :: u302 :: u303 :: u304 :: u305 :: u306 :: u307 :: u308 :: u309 :: u310 :: u311 :: u312 :: u313 :: u314 :: u315 :: u316 :: u317 :: u318 :: u319 :: u320 :: u321 :: u322 :: u323 :: u324 :: u325 :: u326 :: u327 :: u328 :: u329 :: u330 :: u331 :: u332 :: u333 :: u334 :: u335 :: u336 :: u337 :: u338 :: u339 :: u340 :: u341 :: u342 :: u343 :: u344 :: u345 :: u346 :: u347 :: u348 :: u349 :: u350 :: u351 :: u352 :: u353 :: u354 :: u355 :: u356 :: u357 :: u358 :: u359 :: u360 :: u361 :: u362 :: u363 :: u364 :: u365 :: u366 :: u367 :: u368 :: u369 :: u370 :: u371 :: u372 :: u373 :: u374 :: u375 :: u376 :: u377 :: u378 :: u379 :: u380 :: u381 :: u382 :: u383 :: u384 :: u385 :: u386 :: u387 :: u388 :: u389 :: u390 :: u391 :: u392 :: []).toArray, defers := [] } : Act) wr := by
  have kz : (k : Int) < (n : Int) := by omega
  replace hS := Lib.hid hS
  replace hBw := Lib.hid hBw
  replace ho1 := Lib.hid ho1
  replace hm1 := Lib.hid hm1
  replace hc1 := Lib.hid hc1
  replace hK := Lib.hid hK
  conv => arg 2; whnf
  have hrow := ho1.out.kept hBw.out
  obtain ⟨y, hy⟩ : ∃ y, ops[k]? = some y := ⟨_, List.getElem?_eq_getElem (by have := ho1.out.1; omega)⟩
  obtain ⟨rb', off', rfl, z0, z1, z2, z3, z4⟩ := hrow.at hy
  have hyok := (hrow.2.2.1 y (List.mem_of_getElem? hy)).1
  have hyl : y.len ≤ 20 := many_one hc1.out (List.mem_of_getElem? hy)
  have hBb : Below wr.heap.size wr (wr.alloc (.cells #[.int .i64 y.Do, .int .i64 y.m, .int .i64 y.c, .int .i64 y.a, .slice y.p y.len y.cap] 40)) := (Below.refl _ _).alloc (Nat.le_refl _) _
  have hbx : OB (wr.alloc (.cells #[.int .i64 y.Do, .int .i64 y.m, .int .i64 y.c, .int .i64 y.a, .slice y.p y.len y.cap] 40)) wr.heap.size y := heap_alloc_new wr _
  have hsv : (wr.alloc (.cells #[.int .i64 y.Do, .int .i64 y.m, .int .i64 y.c, .int .i64 y.a, .slice y.p y.len y.cap] 40)).heap.size = wr.heap.size + 1 := by simp
  have hnm := hS.out.nm
  generalize hv : wr.alloc (.cells #[.int .i64 y.Do, .int .i64 y.m, .int .i64 y.c, .int .i64 y.a, .slice y.p y.len y.cap] 40) = v at *
  obtain ⟨B1, hB1d⟩ : ∃ B1 : Nat → Prop, ∀ j, B1 j ↔ j < w1.heap.size ∨ j = wr.heap.size := ⟨_, fun j => Iff.rfl⟩
  have hbB : B1 wr.heap.size := (hB1d _).2 (.inr rfl)
  have hTv : TG B1 lb b rb sb' l x l ls p' x.cs v := hS.out.ts.boxed hBb (fun j hj => by
    rcases (hB1d j).1 hj with h | h
    · exact .inl h
    · exact .inr ⟨by omega, by omega⟩)
  have hD := hTv.dow (hyok.kept hBb) (by omega) (by omega)
  rw [hnm] at hD
  unfold WOp.arr at hD
  obtain ⟨y0, y1, y2, y3, y4⟩ := hbx.cells
  replace hD := Lib.hid hD
  replace hrow := Lib.hid hrow
  replace hyok := Lib.hid hyok
  replace hy := Lib.hid hy
  replace hv := Lib.hid hv
  replace hBb := Lib.hid hBb
  replace hbx := Lib.hid hbx
  replace hTv := Lib.hid hTv
  go_upto_region 17 with (fail)
  change Code.wp _ _ _ _ (wr.alloc (.cells #[.int .i64 y.Do, .int .i64 y.m, .int .i64 y.c, .int .i64 y.a, .slice y.p y.len y.cap] 40))
  rw [hv.out]
  go_upto_region 18 with (first | (go_at_call 13; (with_reducible refine hD.out.mono ?_); rintro e w8 ⟨rfl, hT8, hK8⟩))
  have hbx8 : OB w8 wr.heap.size y := hbx.out.kept hK8 hbB
  clear y0 y1 y2 y3 y4 z0 z1 z2 z3 z4
  obtain ⟨y0, y1, y2, y3, y4⟩ := hbx8.cells
  have hB18 : Below w1.heap.size w1 w8 := hBw.out.trans ((hBb.out.mono hBw.out.size).trans (hK8.below (by have := hBw.out.size; have := hBb.out.size; omega) fun j hj e => e ((hB1d j).2 (.inl hj))))
  have hrow8 : PRow w8 y.p y.len y.ps := (ho1.out.2.2.1 y (List.mem_of_getElem? hy.out)).1.b.kept hB18
  have hwr8 : wr.heap.size < w8.heap.size := by have := hK8.size; omega
  generalize hop : opW l x y = R at *
  obtain ⟨er, l', x'⟩ := R
  dsimp only at hT8
  replace hT8 := Lib.hid hT8
  replace hK8 := Lib.hid hK8
  replace hbx8 := Lib.hid hbx8
  replace hrow8 := Lib.hid hrow8
  replace hB18 := Lib.hid hB18
  replace hop := Lib.hid hop
  have ha64 := hyok.out.a
  have hg8 := hS.out.good
  have hz8 := hS.out.siz
  have hsn8 := hS.out.sn
  have hsy8 := hS.out.sy
  replace hg8 := Lib.hid hg8
  replace hz8 := Lib.hid hz8
  replace hsn8 := Lib.hid hsn8
  replace hsy8 := Lib.hid hsy8
  replace ha64 := Lib.hid ha64
  go_upto_block 2 with fail
  go_cut [0, 16, 20, 21, 22, 23, 24, 25, 26] from 120 to 259 (fun v0 v16 v20 v21 v22 v23 v24 v25 v26 wc => ∃ (p'' : Option Addr) (cap'' sb'' : Nat) (ls' : LM), v0 = .slice p'' x'.cs.length cap'' ∧ v16 = .pointer (some ⟨sb'', 0, none⟩) ∧ v20 = .int .i64 er ∧ Hid (TLS B1 lb b rb sb'' l' x' ls' p'' M wc) ∧ Hid (Kp (fun j => ¬ B1 j) w8 wc))
  case first =>
    rename_i J1 K1 hJ1 hK1
    by_cases d0 : y.Do = 0
    · refine sw_in hT8.out hop.out hg8.out hz8.out hM1 hnm hsn8.out hsy8.out hbx8.out hbB hrow8.out hyl ha64.out d0 _ _ _ _ _ _ _ _ _ _ _ _ _ _ _ _ _ _ _ _ _ _ _ _ _ _ _ _ _ _ _ _ _ _ _ _ _ _ _ _ _ _ _ _ _ _ _ _ _ _ _ _ _ _ _ _ _ _ _ _ _ _ _ _ _ _ _ _ _ _ _ _ _ _ _ _ _ _ _ _ _ _ _ _ _ _ _ _ _ _ _ _ _ _ _ _ _ _ _ _ _ _ _ _ _ _ _ _ _ _ _ _ _ _ _ _ _ _ _ _ _ _ _ _ _ _ _ _ _ _ _ _ _ _ _ _ _ _ _ _ _ _ _ _ _ _ _ _ _ _ _ _ _ _ _ _ _ _ _ _ _ _ _ _ _ _ _ _ _ _ _ _ _ _ _ _ _ _ _ _ _ _ _ _ _ _ _ _ _ _ _ _ _ _ _ _ _ _ _ _ _ _ _ _ _ _ _ _ _ _ _ _ _ _ _ _ _ _ _ _ _ _ _ _ _ _ _ _ _ _ _ _ _ _ _ _ _ _ _ _ _ _ _ _ _ _ _ _ _ _ _ _ _ _ _ _ _ _ _ _ _ _ _ _ _ _ _ _ _ _ _ _ _ _ _ _ _ _ _ _ _ _ _ _ _ _ _ _ _ _ _ _ _ _ _ _ _ _ _ _ _ _ _ _ _ _ _ _ _ _ _ _ _ _ _ _ _ _ _ _ _ _ _ _ _ _ _ _ _ _ _ _ _ _ _ _ _ _ _ _ _ _ _ _ _ _ _ _ _ _ _ _ _ _ _ _ _ _ _ _ _ _ _ _ _ _ _ _ _ _ _ _ _ _ _ _ _ _ _ _ _ _ _ _ _ _ ?_
      intro p1 cap1 sb1 ls1 _ _ _ _ _ _ _ _ _ _ _ _ _ _ _ _ _ _ _ _ _ _ _ _ _ _ _ _ _ _ _ _ _ _ _ _ _ _ _ _ _ _ _ _ _ _ _ _ _ _ _ _ _ _ _ _ _ _ _ _ _ _ _ _ _ _ _ _ _ _ _ _ _ _ _ _ _ _ _ _ _ _ _ _ _ _ _ _ _ _ _ _ _ _ _ _ _ _ _ _ _ _ _ _ _ _ _ _ _ _ _ _ _ _ _ _ _ _ _ _ _ _ _ _ _ _ _ _ _ _ _ _ _ _ _ _ _ _ _ _ _ _ _ _ _ _ w' h1 h2
      refine hK1 _ _ (Met.intro (hJ1 _ _ ?_))
      (repeat apply Exists.intro)
      exact ⟨⟨p1, cap1, sb1, ls1, rfl, rfl, rfl, h1, h2⟩, rfl⟩
    by_cases d4 : y.Do = 4
    · refine sw_un hT8.out hop.out hg8.out hz8.out hM1 hnm hsn8.out hsy8.out hbx8.out hbB hrow8.out hyl ha64.out d4 _ _ _ _ _ _ _ _ _ _ _ _ _ _ _ _ _ _ _ _ _ _ _ _ _ _ _ _ _ _ _ _ _ _ _ _ _ _ _ _ _ _ _ _ _ _ _ _ _ _ _ _ _ _ _ _ _ _ _ _ _ _ _ _ _ _ _ _ _ _ _ _ _ _ _ _ _ _ _ _ _ _ _ _ _ _ _ _ _ _ _ _ _ _ _ _ _ _ _ _ _ _ _ _ _ _ _ _ _ _ _ _ _ _ _ _ _ _ _ _ _ _ _ _ _ _ _ _ _ _ _ _ _ _ _ _ _ _ _ _ _ _ _ _ _ _ _ _ _ _ _ _ _ _ _ _ _ _ _ _ _ _ _ _ _ _ _ _ _ _ _ _ _ _ _ _ _ _ _ _ _ _ _ _ _ _ _ _ _ _ _ _ _ _ _ _ _ _ _ _ _ _ _ _ _ _ _ _ _ _ _ _ _ _ _ _ _ _ _ _ _ _ _ _ _ _ _ _ _ _ _ _ _ _ _ _ _ _ _ _ _ _ _ _ _ _ _ _ _ _ _ _ _ _ _ _ _ _ _ _ _ _ _ _ _ _ _ _ _ _ _ _ _ _ _ _ _ _ _ _ _ _ _ _ _ _ _ _ _ _ _ _ _ _ _ _ _ _ _ _ _ _ _ _ _ _ _ _ _ _ _ _ _ _ _ _ _ _ _ _ _ _ _ _ _ _ _ _ _ _ _ _ _ _ _ _ _ _ _ _ _ _ _ _ _ _ _ _ _ _ _ _ _ _ _ _ _ _ _ _ _ _ _ _ _ _ _ _ _ _ _ _ _ _ _ _ _ _ _ _ _ _ _ _ _ _ ?_
      intro p1 cap1 sb1 ls1 _ _ _ _ _ _ _ _ _ _ _ _ _ _ _ _ _ _ _ _ _ _ _ _ _ _ _ _ _ _ _ _ _ _ _ _ _ _ _ _ _ _ _ _ _ _ _ _ _ _ _ _ _ _ _ _ _ _ _ _ _ _ _ _ _ _ _ _ _ _ _ _ _ _ _ _ _ _ _ _ _ _ _ _ _ _ _ _ _ _ _ _ _ _ _ _ _ _ _ _ _ _ _ _ _ _ _ _ _ _ _ _ _ _ _ _ _ _ _ _ _ _ _ _ _ _ _ _ _ _ _ _ _ _ _ _ _ _ _ _ _ _ _ _ _ _ w' h1 h2
      refine hK1 _ _ (Met.intro (hJ1 _ _ ?_))
      (repeat apply Exists.intro)
      exact ⟨⟨p1, cap1, sb1, ls1, rfl, rfl, rfl, h1, h2⟩, rfl⟩
    by_cases d1 : y.Do = 1
    · refine sw_post hT8.out hop.out hg8.out hz8.out hM1 hnm hsn8.out hsy8.out hbx8.out hbB hrow8.out hyl ha64.out d1 _ _ _ _ _ _ _ _ _ _ _ _ _ _ _ _ _ _ _ _ _ _ _ _ _ _ _ _ _ _ _ _ _ _ _ _ _ _ _ _ _ _ _ _ _ _ _ _ _ _ _ _ _ _ _ _ _ _ _ _ _ _ _ _ _ _ _ _ _ _ _ _ _ _ _ _ _ _ _ _ _ _ _ _ _ _ _ _ _ _ _ _ _ _ _ _ _ _ _ _ _ _ _ _ _ _ _ _ _ _ _ _ _ _ _ _ _ _ _ _ _ _ _ _ _ _ _ _ _ _ _ _ _ _ _ _ _ _ _ _ _ _ _ _ _ _ _ _ _ _ _ _ _ _ _ _ _ _ _ _ _ _ _ _ _ _ _ _ _ _ _ _ _ _ _ _ _ _ _ _ _ _ _ _ _ _ _ _ _ _ _ _ _ _ _ _ _ _ _ _ _ _ _ _ _ _ _ _ _ _ _ _ _ _ _ _ _ _ _ _ _ _ _ _ _ _ _ _ _ _ _ _ _ _ _ _ _ _ _ _ _ _ _ _ _ _ _ _ _ _ _ _ _ _ _ _ _ _ _ _ _ _ _ _ _ _ _ _ _ _ _ _ _ _ _ _ _ _ _ _ _ _ _ _ _ _ _ _ _ _ _ _ _ _ _ _ _ _ _ _ _ _ _ _ _ _ _ _ _ _ _ _ _ _ _ _ _ _ _ _ _ _ _ _ _ _ _ _ _ _ _ _ _ _ _ _ _ _ _ _ _ _ _ _ _ _ _ _ _ _ _ _ _ _ _ _ _ _ _ _ _ _ _ _ _ _ _ _ _ _ _ _ _ _ _ _ _ _ _ _ _ _ _ _ _ _ ?_
      intro p1 cap1 sb1 ls1 _ _ _ _ _ _ _ _ _ _ _ _ _ _ _ _ _ _ _ _ _ _ _ _ _ _ _ _ _ _ _ _ _ _ _ _ _ _ _ _ _ _ _ _ _ _ _ _ _ _ _ _ _ _ _ _ _ _ _ _ _ _ _ _ _ _ _ _ _ _ _ _ _ _ _ _ _ _ _ _ _ _ _ _ _ _ _ _ _ _ _ _ _ _ _ _ _ _ _ _ _ _ _ _ _ _ _ _ _ _ _ _ _ _ _ _ _ _ _ _ _ _ _ _ _ _ _ _ _ _ _ _ _ _ _ _ _ _ _ _ _ _ _ _ _ _ w' h1 h2
      refine hK1 _ _ (Met.intro (hJ1 _ _ ?_))
      (repeat apply Exists.intro)
      exact ⟨⟨p1, cap1, sb1, ls1, rfl, rfl, rfl, h1, h2⟩, rfl⟩
    by_cases d2 : y.Do = 2
    · refine sw_rate hT8.out hop.out hg8.out hz8.out hM1 hnm hsn8.out hsy8.out hbx8.out hbB hrow8.out hyl ha64.out d2 _ _ _ _ _ _ _ _ _ _ _ _ _ _ _ _ _ _ _ _ _ _ _ _ _ _ _ _ _ _ _ _ _ _ _ _ _ _ _ _ _ _ _ _ _ _ _ _ _ _ _ _ _ _ _ _ _ _ _ _ _ _ _ _ _ _ _ _ _ _ _ _ _ _ _ _ _ _ _ _ _ _ _ _ _ _ _ _ _ _ _ _ _ _ _ _ _ _ _ _ _ _ _ _ _ _ _ _ _ _ _ _ _ _ _ _ _ _ _ _ _ _ _ _ _ _ _ _ _ _ _ _ _ _ _ _ _ _ _ _ _ _ _ _ _ _ _ _ _ _ _ _ _ _ _ _ _ _ _ _ _ _ _ _ _ _ _ _ _ _ _ _ _ _ _ _ _ _ _ _ _ _ _ _ _ _ _ _ _ _ _ _ _ _ _ _ _ _ _ _ _ _ _ _ _ _ _ _ _ _ _ _ _ _ _ _ _ _ _ _ _ _ _ _ _ _ _ _ _ _ _ _ _ _ _ _ _ _ _ _ _ _ _ _ _ _ _ _ _ _ _ _ _ _ _ _ _ _ _ _ _ _ _ _ _ _ _ _ _ _ _ _ _ _ _ _ _ _ _ _ _ _ _ _ _ _ _ _ _ _ _ _ _ _ _ _ _ _ _ _ _ _ _ _ _ _ _ _ _ _ _ _ _ _ _ _ _ _ _ _ _ _ _ _ _ _ _ _ _ _ _ _ _ _ _ _ _ _ _ _ _ _ _ _ _ _ _ _ _ _ _ _ _ _ _ _ _ _ _ _ _ _ _ _ _ _ _ _ _ _ _ _ _ _ _ _ _ _ _ _ _ _ _ _ _ _ ?_
      intro p1 cap1 sb1 ls1 _ _ _ _ _ _ _ _ _ _ _ _ _ _ _ _ _ _ _ _ _ _ _ _ _ _ _ _ _ _ _ _ _ _ _ _ _ _ _ _ _ _ _ _ _ _ _ _ _ _ _ _ _ _ _ _ _ _ _ _ _ _ _ _ _ _ _ _ _ _ _ _ _ _ _ _ _ _ _ _ _ _ _ _ _ _ _ _ _ _ _ _ _ _ _ _ _ _ _ _ _ _ _ _ _ _ _ _ _ _ _ _ _ _ _ _ _ _ _ _ _ _ _ _ _ _ _ _ _ _ _ _ _ _ _ _ _ _ _ _ _ _ _ _ _ _ w' h1 h2
      refine hK1 _ _ (Met.intro (hJ1 _ _ ?_))
      (repeat apply Exists.intro)
      exact ⟨⟨p1, cap1, sb1, ls1, rfl, rfl, rfl, h1, h2⟩, rfl⟩
    by_cases d3 : y.Do = 3
    · refine sw_cut hT8.out hop.out hg8.out hz8.out hM1 hnm hsn8.out hsy8.out hbx8.out hbB hrow8.out hyl ha64.out d3 _ _ _ _ _ _ _ _ _ _ _ _ _ _ _ _ _ _ _ _ _ _ _ _ _ _ _ _ _ _ _ _ _ _ _ _ _ _ _ _ _ _ _ _ _ _ _ _ _ _ _ _ _ _ _ _ _ _ _ _ _ _ _ _ _ _ _ _ _ _ _ _ _ _ _ _ _ _ _ _ _ _ _ _ _ _ _ _ _ _ _ _ _ _ _ _ _ _ _ _ _ _ _ _ _ _ _ _ _ _ _ _ _ _ _ _ _ _ _ _ _ _ _ _ _ _ _ _ _ _ _ _ _ _ _ _ _ _ _ _ _ _ _ _ _ _ _ _ _ _ _ _ _ _ _ _ _ _ _ _ _ _ _ _ _ _ _ _ _ _ _ _ _ _ _ _ _ _ _ _ _ _ _ _ _ _ _ _ _ _ _ _ _ _ _ _ _ _ _ _ _ _ _ _ _ _ _ _ _ _ _ _ _ _ _ _ _ _ _ _ _ _ _ _ _ _ _ _ _ _ _ _ _ _ _ _ _ _ _ _ _ _ _ _ _ _ _ _ _ _ _ _ _ _ _ _ _ _ _ _ _ _ _ _ _ _ _ _ _ _ _ _ _ _ _ _ _ _ _ _ _ _ _ _ _ _ _ _ _ _ _ _ _ _ _ _ _ _ _ _ _ _ _ _ _ _ _ _ _ _ _ _ _ _ _ _ _ _ _ _ _ _ _ _ _ _ _ _ _ _ _ _ _ _ _ _ _ _ _ _ _ _ _ _ _ _ _ _ _ _ _ _ _ _ _ _ _ _ _ _ _ _ _ _ _ _ _ _ _ _ _ _ _ _ _ _ _ _ _ _ _ _ _ _ _ _ ?_
      intro p1 cap1 sb1 ls1 _ _ _ _ _ _ _ _ _ _ _ _ _ _ _ _ _ _ _ _ _ _ _ _ _ _ _ _ _ _ _ _ _ _ _ _ _ _ _ _ _ _ _ _ _ _ _ _ _ _ _ _ _ _ _ _ _ _ _ _ _ _ _ _ _ _ _ _ _ _ _ _ _ _ _ _ _ _ _ _ _ _ _ _ _ _ _ _ _ _ _ _ _ _ _ _ _ _ _ _ _ _ _ _ _ _ _ _ _ _ _ _ _ _ _ _ _ _ _ _ _ _ _ _ _ _ _ _ _ _ _ _ _ _ _ _ _ _ _ _ _ _ _ _ _ _ w' h1 h2
      refine hK1 _ _ (Met.intro (hJ1 _ _ ?_))
      (repeat apply Exists.intro)
      exact ⟨⟨p1, cap1, sb1, ls1, rfl, rfl, rfl, h1, h2⟩, rfl⟩
    refine sw_rest hT8.out hop.out hg8.out hz8.out hM1 hnm hsn8.out hsy8.out hbx8.out hbB hrow8.out hyl ha64.out d0 d4 d1 d2 d3 _ _ _ _ _ _ _ _ _ _ _ _ _ _ _ _ _ _ _ _ _ _ _ _ _ _ _ _ _ _ _ _ _ _ _ _ _ _ _ _ _ _ _ _ _ _ _ _ _ _ _ _ _ _ _ _ _ _ _ _ _ _ _ _ _ _ _ _ _ _ _ _ _ _ _ _ _ _ _ _ _ _ _ _ _ _ _ _ _ _ _ _ _ _ _ _ _ _ _ _ _ _ _ _ _ _ _ _ _ _ _ _ _ _ _ _ _ _ _ _ _ _ _ _ _ _ _ _ _ _ _ _ _ _ _ _ _ _ _ _ _ _ _ _ _ _ _ _ _ _ _ _ _ _ _ _ _ _ _ _ _ _ _ _ _ _ _ _ _ _ _ _ _ _ _ _ _ _ _ _ _ _ _ _ _ _ _ _ _ _ _ _ _ _ _ _ _ _ _ _ _ _ _ _ _ _ _ _ _ _ _ _ _ _ _ _ _ _ _ _ _ _ _ _ _ _ _ _ _ _ _ _ _ _ _ _ _ _ _ _ _ _ _ _ _ _ _ _ _ _ _ _ _ _ _ _ _ _ _ _ _ _ _ _ _ _ _ _ _ _ _ _ _ _ _ _ _ _ _ _ _ _ _ _ _ _ _ _ _ _ _ _ _ _ _ _ _ _ _ _ _ _ _ _ _ _ _ _ _ _ _ _ _ _ _ _ _ _ _ _ _ _ _ _ _ _ _ _ _ _ _ _ _ _ _ _ _ _ _ _ _ _ _ _ _ _ _ _ _ _ _ _ _ _ _ _ _ _ _ _ _ _ _ _ _ _ _ _ _ _ _ _ _ _ _ _ _ _ _ _ _ _ _ _ _ _ ?_
    intro p1 cap1 sb1 ls1 _ _ _ _ _ _ _ _ _ _ _ _ _ _ _ _ _ _ _ _ _ _ _ _ _ _ _ _ _ _ _ _ _ _ _ _ _ _ _ _ _ _ _ _ _ _ _ _ _ _ _ _ _ _ _ _ _ _ _ _ _ _ _ _ _ _ _ _ _ _ _ _ _ _ _ _ _ _ _ _ _ _ _ _ _ _ _ _ _ _ _ _ _ _ _ _ _ _ _ _ _ _ _ _ _ _ _ _ _ _ _ _ _ _ _ _ _ _ _ _ _ _ _ _ _ _ _ _ _ _ _ _ _ _ _ _ _ _ _ _ _ _ _ _ _ _ w' h1 h2
    refine hK1 _ _ (Met.intro (hJ1 _ _ ?_))
    (repeat apply Exists.intro)
    exact ⟨⟨p1, cap1, sb1, ls1, rfl, rfl, rfl, h1, h2⟩, rfl⟩
  case rest =>
    obtain ⟨p'', cap'', sb'', ls', rfl, rfl, rfl, hS9, hK9⟩ := hcut
    obtain ⟨KF9, RF9, SF9, hv9⟩ := hS9.out.ts
    obtain ⟨P9, hP9⟩ := hv9.a.wp
    have cT := table_any wc hP9
    have hchk := hP9.chk
    have hnm9 := hS9.out.nm
    have hcl9 := (chk_ok hchk).2.1
    have hoob := (chk_ok hchk).2.2.1
    have hncs : ls'.nc = x'.cs.length := hS9.out.sn.2.trans hS9.out.siz.nc.symm
    have hnms : ls'.nm = M := hS9.out.sn.1.trans (hS9.out.siz.nm.symm.trans hnm9)
    have hpos : 1 ≤ x'.cs.length := hv9.tn
    have hB19 : Below w1.heap.size w1 wc := hB18.out.trans (hK9.out.below hB18.out.size fun j hj e => e ((hB1d j).2 (.inl hj)))
    have hso := hv9.so
    obtain ⟨gB, cB, gN, cN, g, cp, hs9⟩ := hv9.s
    have ht9 := hv9.t
    have cSm := fun wv gq cq (h : Below wc.heap.size wc wv) (h2 : Tab wv (some ⟨gq, 0, none⟩) x'.cs.length x'.cs) => same_any (some ⟨gq, 0, none⟩) p'' x'.cs.length cq cap'' x'.cs wv h2 (ht9.kept h)
    replace cT := Lib.hid cT
    replace cSm := Lib.hid cSm
    replace hchk := Lib.hid hchk
    replace hoob := Lib.hid hoob
    replace hP9 := Lib.hid hP9
    replace hs9 := Lib.hid hs9
    replace ht9 := Lib.hid ht9
    replace hv9 := Lib.hid hv9
    replace hB19 := Lib.hid hB19
    replace hso := Lib.hid hso
    go_upto_region 48 with (first | (go_at_call 18; (with_reducible refine cT.out.mono ?_); rintro e wt ⟨gq, cq, rfl, hTq, _, _, hBt⟩; have cS1 := Lib.hid (cSm.out wt gq cq hBt hTq); replace hTq := Lib.hid hTq; replace hBt := Lib.hid hBt) | (go_at_call 17; (with_reducible refine cS1.out.mono ?_); rintro e wd ⟨rfl, hBd⟩; replace hBd := Lib.hid hBd))
    have hBcd := hBt.out.trans (hBd.out.mono hBt.out.size)
    have hR0 : TRd b lb sb'' x' ls' p'' q2 n2 mps gB cB gN cN g cp SF9 wd wd := ⟨⟨P9, hP9.out.below hBcd⟩, hs9.out.below hBcd, ht9.out.kept hBcd, hm1.out.kept (hB19.out.trans (hBcd.mono hB19.out.size)), Below.refl _ _⟩
    replace hR0 := Lib.hid hR0
    replace hBcd := Lib.hid hBcd
    go_upto_block 3 with (fail)
    refine wp_part ?_
    refine read_any hR0.out hM1 hnm9 hnms hncs hpos hcl9 hoob.out hso.out (by omega) hS9.out.sy _ _ _ _ _ _ _ _ _ _ _ _ _ _ _ _ _ _ _ _ _ _ _ _ _ _ _ _ _ _ _ _ _ _ _ _ _ _ _ _ _ _ _ _ _ _ _ _ _ _ _ _ _ _ _ _ _ _ _ _ _ _ _ _ _ _ _ _ _ _ _ _ _ _ _ _ _ _ _ _ _ _ _ _ _ _ _ _ _ _ _ _ _ _ _ _ _ _ _ _ _ _ _ _ _ _ _ _ _ _ _ _ _ _ _ _ _ _ _ _ _ _ _ _ _ _ _ _ _ _ _ _ _ _ _ _ _ _ _ _ _ _ _ _ _ _ _ _ _ _ _ _ _ _ _ _ _ _ _ _ _ _ _ _ _ _ _ _ _ _ _ _ _ _ _ _ _ _ _ _ _ _ _ _ _ _ _ _ _ _ _ _ _ _ _ _ _ _ _ _ _ _ _ _ _ _ _ _ _ _ _ _ _ _ _ _ _ _ _ _ _ _ _ _ _ _ _ _ _ _ _ _ _ _ _ _ _ _ _ _ _ _ _ _ _ _ _ _ _ _ _ _ _ _ _ _ _ _ _ _ _ _ _ _ _ _ _ _ _ _ _ _ _ _ _ _ _ _ _ _ _ _ _ _ _ _ _ _ _ _ _ _ _ _ _ _ _ _ _ _ _ _ _ _ _ _ _ _ _ _ _ _ _ _ _ _ _ _ _ _ _ _ _ _ _ _ _ _ _ _ _ _ _ _ _ _ _ _ _ _ _ _ _ _ _ _ _ _ _ _ _ _ _ _ _ _ _ _ _ _ _ _ _ _ _ _ _ _ _ _ _ _ _ _ _ _ _ _ _ _ _ _ _ _ _ _ _ ?_
    intro _ _ _ _ _ _ _ _ _ _ _ _ _ _ _ _ _ _ _ _ _ _ _ _ _ _ _ _ _ _ _ _ _ _ _ _ _ _ _ _ _ _ _ _ _ _ _ _ _ _ _ _ _ _ _ _ _ _ _ _ _ _ _ _ _ _ _ _ _ _ _ _ _ _ _ _ _ _ _ _ _ _ _ _ _ _ _ _ _ _ _ _ _ _ _ _ _ _ _ _ _ _ _ _ _ _ _ _ _ _ _ _ _ _ _ _ _ _ _ _ _ _ _ _ _ _ _ _ _ _ _ _ _ _ _ _ _ _ w' hwb
    have hwd : Below wc.heap.size wc w' := hBcd.out.trans (hwb.mono hBcd.out.size)
    have hSn : TLS (fun j => j < w1.heap.size) lb b rb sb'' l' x' ls' p'' M w' := ⟨(hS9.out.ts.below hwd).less fun j hj => (hB1d j).2 (.inl hj), hS9.out.good, hS9.out.siz, hS9.out.nm, hS9.out.sn, hS9.out.sy⟩
    have hBn := hB19.out.trans (hwd.mono hB19.out.size)
    replace hSn := Lib.hid hSn
    replace hBn := Lib.hid hBn
    replace hwd := Lib.hid hwd
    replace hwb := Lib.hid hwb
    refine hK.out l' x' ls' p'' cap'' sb'' _ _ _ _ _ _ _ _ _ _ _ _ _ _ _ _ _ _ _ _ _ _ _ _ _ _ _ _ _ _ _ _ _ _ _ _ _ _ _ _ _ _ _ _ _ _ _ _ _ _ _ _ _ _ _ _ _ _ _ _ _ _ _ _ _ _ _ _ _ _ _ _ _ _ _ _ _ _ _ _ _ _ _ _ _ _ _ _ _ _ _ _ _ _ _ _ _ _ _ _ _ _ _ _ _ _ _ _ _ _ _ _ _ _ _ _ _ _ _ _ _ _ _ _ _ _ _ _ _ _ _ _ _ _ _ _ _ _ _ _ _ _ _ _ _ _ _ _ _ _ _ _ _ _ _ _ _ _ _ _ _ _ _ _ _ _ _ _ _ _ _ _ _ _ _ _ _ _ _ _ _ _ _ _ _ _ _ _ _ _ _ _ _ _ _ _ _ _ _ _ _ _ _ _ _ _ _ _ _ _ _ _ _ _ _ _ _ _ _ _ _ _ _ _ _ _ _ _ _ _ _ _ _ _ _ _ _ _ _ _ _ _ _ _ _ _ _ _ _ _ _ _ _ _ _ _ _ _ _ _ _ _ _ _ _ _ _ _ _ _ _ _ _ _ _ _ _ _ _ _ _ _ _ _ _ _ _ _ _ _ _ _ _ _ _ _ _ _ _ _ _ _ _ _ _ _ _ ?_ ?_
    · exact hSn.out
    · exact hBn.out
end Go.Proofs.Ytllhpdohahoelaa
namespace Go.Proofs.Ytllhpdohahoelaa
open Go.RowKit
set_option linter.unusedVariables false

set_option maxHeartbeats 8000000 in
set_option maxRecDepth 100000 in
theorem worthTells_any (p : Option Addr) (len cap : Nat) (cs : List Cur) (mb : Int) (q : Option Addr) (n c2 : Nat) (ops : List WOp) (q2 : Option Addr) (n2 c3 : Nat) (mps : List Pst) (w : World) (hT : Tab w p len cs) (hmb : 0 ≤ mb ∧ mb ≤ 255) (ho : OpsW w q n ops) (hmore : PRow w q2 n2 mps) (hn2 : n2 ≤ 140737488351232) :
    Calls Try.prog 3 #[.slice p len cap, .int .u8 mb, .slice q n c2, .slice q2 n2 c3] w fun e w' => e = .returned (.bool true) ∧ Below w.heap.size w w' := by
  have hA := Lib.hid (awake_any w)
  replace hT := Lib.hid hT
  replace ho := Lib.hid ho
  replace hmore := Lib.hid hmore
  go_enter Try.func3, Try.ntmps3
  go_upto_region 3 with (first | (go_at_call 6; (with_reducible refine hA.out.mono ?_); rintro e w1 ⟨rfl, hB1⟩))
  have hT1 := hT.out.kept hB1
  have ho1 := ho.out.kept hB1
  have hm1 := hmore.out.kept hB1
  have cL := large_any q n c2 ops w1 ho1
  replace hB1 := Lib.hid hB1
  replace hT1 := Lib.hid hT1
  replace ho1 := Lib.hid ho1
  replace hm1 := Lib.hid hm1
  cases hc1 : manyO ops with
  | true =>
    rw [hc1] at cL
    replace cL := Lib.hid cL
    go_wp2_with (first | (go_at_call 7; (with_reducible refine cL.out.mono ?_); rintro e w2 ⟨rfl, rfl⟩))
    go_ret
    exact ⟨rfl, hB1.out⟩
  | false =>
  rw [hc1] at cL
  replace cL := Lib.hid cL
  by_cases hl20 : 20 < len
  · have hz : (20 : Int) < (len : Int) := by omega
    go_wp2_with (first | (go_at_call 7; (with_reducible refine cL.out.mono ?_); rintro e w2 ⟨rfl, rfl⟩))
    go_ret
    exact ⟨rfl, hB1.out⟩
  have hz : ¬ (20 : Int) < (len : Int) := by omega
  by_cases hm20 : 20 < n2
  · have hz2 : (20 : Int) < (n2 : Int) := by omega
    go_wp2_with (first | (go_at_call 7; (with_reducible refine cL.out.mono ?_); rintro e w2 ⟨rfl, rfl⟩))
    go_ret
    exact ⟨rfl, hB1.out⟩
  have hz2 : ¬ (20 : Int) < (n2 : Int) := by omega
  have hn30 : n ≤ 30 := by have := many_len hc1; have := ho1.out.1; omega
  have hlen := hT1.out.1
  replace hlen := Lib.hid hlen
  replace hc1 := Lib.hid hc1
  go_upto_region 6 with (first | (go_at_call 7; (with_reducible refine cL.out.mono ?_); rintro e w2 ⟨rfl, rfl⟩))
  obtain ⟨M, hM⟩ : ∃ M : Nat, mb % 16 + 1 = M := ⟨(mb % 16 + 1).toNat, by omega⟩
  have hM1 : 1 ≤ M ∧ M ≤ 16 := by omega
  rw [hM]
  replace hM := Lib.hid hM
  have hnc := ncOf_ok len
  have hok : newOk (M : Int) (max (min (len : Int) 8) 1) = true := by rw [ncOf_int]; exact newOk_iff.2 ⟨by omega, by omega, by omega, by omega⟩
  have hct : (max (min (len : Int) 8) 1).toNat = ncOf len := by rw [ncOf_int, Int.toNat_natCast]
  have cN : Calls Try.prog 8 #[.int .i64 (M : Int), .int .i64 (max (min (len : Int) 8) 1)] w1 fun e w' => ∃ b, e = .returned (.tuple #[.pointer (some ⟨b, 0, none⟩), .int .i64 0]) ∧ PL (fun j => w1.heap.size ≤ j) w' b (LM.new M (ncOf len)) ∧ Below w1.heap.size w1 w' := by
    refine (new_any _ _ w1).mono ?_
    rintro e w' ⟨h1, _, h3⟩
    obtain ⟨b, e1, hL⟩ := h1 hok
    rw [Int.toNat_natCast, hct] at hL
    exact ⟨b, e1, hL, h3⟩
  have cR : ∀ w, Calls Try.prog 9 #[.int .i64 (M : Int), .int .i64 (max (min (len : Int) 8) 1)] w fun e w' => ∃ b, e = .returned (.tuple #[.pointer (some ⟨b, 0, none⟩), .int .i64 0]) ∧ RL (fun j => w.heap.size ≤ j) w' b (LM.new M (ncOf len)) ∧ Below w.heap.size w w' := fun w => by
    refine (newRL_any _ _ w).mono ?_
    rintro e w' ⟨h1, _, h3⟩
    obtain ⟨b, e1, hL⟩ := h1 hok
    rw [Int.toNat_natCast, hct] at hL
    exact ⟨b, e1, hL, h3⟩
  have hg0 : (LM.new M (ncOf len)).Good := by
    obtain ⟨g1, g2⟩ := new_ok (nm := M) (nc := ncOf len) (by omega) (by omega)
    exact ⟨g1, g2⟩
  have hn0 : (LM.new M (ncOf len)).nm = M := rfl
  have hd0 : (LM.new M (ncOf len)).nc = ncOf len := rfl
  generalize LM.new M (ncOf len) = l0 at *
  clear hct hok
  replace cN := Lib.hid cN
  replace cR := Lib.hid cR
  replace hg0 := Lib.hid hg0
  replace hn0 := Lib.hid hn0
  replace hd0 := Lib.hid hd0
  clear cL
  go_upto_region 8 with (first | (go_at_call 8; (with_reducible refine cN.out.mono ?_); rintro e w3 ⟨lb, rfl, hL3, hB3⟩; replace hL3 := Lib.hid hL3; replace hB3 := Lib.hid hB3) | (go_at_call 9; (with_reducible refine (cR.out _).mono ?_); rintro e w4 ⟨rb, rfl, hR4, hB4⟩; replace hR4 := Lib.hid hR4; replace hB4 := Lib.hid hB4))
  have hB14 := hB3.out.trans (hB4.out.mono hB3.out.size)
  have hT4 := hT1.out.kept hB14
  have hL4 : PL (fun j => w1.heap.size ≤ j) w4 lb l0 := (PL.live lb l0).kept hL3.out (Kp.of_below (F := fun _ => False) hB4.out) (fun _ _ _ h => h)
  have cW := wnew_any (cap := cap) w4 hT4 hL4 hg0.out
  have cC := fun wv (h : Below w4.heap.size w4 wv) => checkR_any p len cap cs wv (hT4.kept h)
  replace cC := Lib.hid cC
  replace hB14 := Lib.hid hB14
  replace hT4 := Lib.hid hT4
  replace hL4 := Lib.hid hL4
  clear cN cR
  by_cases hc : chkT cs = 0
  · have h1 := (chk_ok hc).1
    have h8 := (chk_ok hc).2.1
    have hnl : ncOf len = len := by rw [hlen.out] at h1 h8; unfold ncOf; omega
    have cW' : Calls Try.prog 10 #[.slice p len cap, .pointer (some ⟨lb, 0, none⟩)] w4 fun e w' => ∃ b, e = .returned (.tuple #[.pointer (some ⟨b, 0, none⟩), .int .i64 0]) ∧ WP (fun j => w4.heap.size ≤ j) w' b lb (WM.new cs l0) ∧ Below w4.heap.size w4 w' := by
      refine cW.mono ?_
      rintro e w' ⟨_, _, h3, h4⟩
      obtain ⟨b, e1, hW⟩ := h3 hc (by rw [hd0.out, hnl]; exact hlen.out)
      exact ⟨b, e1, hW, h4⟩
    replace cW' := Lib.hid cW'
    rw [hc] at cC
    replace hc := Lib.hid hc
    replace hnl := Lib.hid hnl
    clear cW
    go_upto_region 13 with (first | (go_at_call 10; (with_reducible refine cW'.out.mono ?_); rintro e w5 ⟨b, rfl, hW5, hB5⟩; have cC5 := Lib.hid (cC.out w5 hB5); replace hW5 := Lib.hid hW5; replace hB5 := Lib.hid hB5) | (go_at_call 11; (with_reducible refine cC5.out.mono ?_); rintro e w6 ⟨rfl, hB6⟩; replace hB6 := Lib.hid hB6))
    have hTP : ∃ KF RF, TPv (fun j => j < w1.heap.size) lb b rb l0 (WM.new cs l0) l0 p cs KF RF w6 := by
      have hT1' := hT1.out
      have hl := hlen.out
      obtain ⟨_, _, _, h4⟩ := id hT1'
      obtain ⟨g, off, ep, _⟩ := h4.resolve_left (by omega)
      have := (TPv.made hL3.out hg0.out hB3.out hR4.out hg0.out.ok hB4.out hW5.out hB5.out (by rw [hl]; exact hT1') h1 ep).fresh hB6.out
      exact ⟨_, _, this⟩
    obtain ⟨KF, RF, hTP⟩ := hTP
    have cCp := hTP.copy
    replace cCp := Lib.hid cCp
    replace hTP := Lib.hid hTP
    go_upto_region 14 with (first | (go_at_call 12; (with_reducible refine cCp.out.mono ?_); rintro e w7 ⟨sb, rfl, hS7, hB7⟩; replace hB7 := Lib.hid hB7))
    have hB17 : Below w1.heap.size w1 w7 := hB14.out.trans ((hB5.out.trans ((hB6.out.trans (hB7.out.mono hB6.out.size)).mono hB5.out.size)).mono hB14.out.size)
    have hS0 : TLS (fun j => j < w1.heap.size) lb b rb sb l0 (WM.new cs l0) l0 p M w7 := ⟨hS7, hg0.out, ⟨rfl, by rw [hd0.out, hnl.out]; exact hlen.out⟩, hn0.out, ⟨rfl, rfl⟩, fun m hm => row_B hg0.out hm⟩
    have hlw : (WM.new cs l0).cs.length = len := hlen.out
    replace hS7 := Lib.hid hS7
    replace hS0 := Lib.hid hS0
    replace hB17 := Lib.hid hB17
    go_upto_region 15 with (fail)
    go_loopw [0, 16, 109] (fun tv sv i wr => ∃ (k : Nat) (l : LM) (x : WM) (ls : LM) (p' : Option Addr) (cap' sb' : Nat), k ≤ n ∧ i = .int .i64 (k : Int) ∧ tv = .slice p' x.cs.length cap' ∧ sv = .pointer (some ⟨sb', 0, none⟩) ∧ Hid (TLS (fun j => j < w1.heap.size) lb b rb sb' l x ls p' M wr) ∧ Hid (Below w1.heap.size w1 wr)) (fun _ _ i _ => n - (intOf i).toNat)
    case atStart => exact ⟨0, l0, WM.new cs l0, l0, p, cap, sb, by omega, rfl, by rw [hlw], rfl, hS0, hB17⟩
    case round =>
      obtain ⟨k, l, x, ls, p', cap', sb', hk, rfl, rfl, rfl, hS, hBw⟩ := hrel
      by_cases hkn : k < n
      · have kz : (k : Int) < (n : Int) := by omega
        go_upto_block 1 with (fail)
        refine round_any hS.out hBw.out ho1.out hm1.out hc1.out hkn hn30 hm20 hM1 _ _ _ _ _ _ _ _ _ _ _ _ _ _ _ _ _ _ _ _ _ _ _ _ _ _ _ _ _ _ _ _ _ _ _ _ _ _ _ _ _ _ _ _ _ _ _ _ _ _ _ _ _ _ _ _ _ _ _ _ _ _ _ _ _ _ _ _ _ _ _ _ _ _ _ _ _ _ _ _ _ _ _ _ _ _ _ _ _ _ _ _ _ _ _ _ _ _ _ _ _ _ _ _ _ _ _ _ _ _ _ _ _ _ _ _ _ _ _ _ _ _ _ _ _ _ _ _ _ _ _ _ _ _ _ _ _ _ _ _ _ _ _ _ _ _ _ _ _ _ _ _ _ _ _ _ _ _ _ _ _ _ _ _ _ _ _ _ _ _ _ _ _ _ _ _ _ _ _ _ _ _ _ _ _ _ _ _ _ _ _ _ _ _ _ _ _ _ _ _ _ _ _ _ _ _ _ _ _ _ _ _ _ _ _ _ _ _ _ _ _ _ _ _ _ _ _ _ _ _ _ _ _ _ _ _ _ _ _ _ _ _ _ _ _ _ _ _ _ _ _ _ _ _ _ _ _ _ _ _ _ _ _ _ _ _ _ _ _ _ _ _ _ _ _ _ _ _ _ _ _ _ _ _ _ _ _ _ _ _ _ _ _ _ _ _ _ _ _ _ _ _ _ _ _ _ _ _ _ _ _ _ _ _ _ _ _ _ _ _ _ _ _ _ _ _ _ _ _ _ _ _ _ _ _ _ _ _ _ _ _ _ _ _ _ _ _ _ _ _ _ _ _ _ _ _ _ _ _ _ _ _ _ _ _ _ _ _ _ _ _ _ _ _ _ _ _ _ _ _ _ _ _ _ ?_
        intro l' x' ls' p'' cap'' sb'' _ _ _ _ _ _ _ _ _ _ _ _ _ _ _ _ _ _ _ _ _ _ _ _ _ _ _ _ _ _ _ _ _ _ _ _ _ _ _ _ _ _ _ _ _ _ _ _ _ _ _ _ _ _ _ _ _ _ _ _ _ _ _ _ _ _ _ _ _ _ _ _ _ _ _ _ _ _ _ _ _ _ _ _ _ _ _ _ _ _ _ _ _ _ _ _ _ _ _ _ _ _ _ _ _ _ _ _ _ _ _ _ _ _ _ _ _ _ _ _ _ _ _ _ _ _ _ _ _ _ _ _ _ _ _ _ _ _ _ _ _ _ _ _ _ _ _ _ _ _ _ _ _ _ _ _ _ _ _ _ _ _ _ _ _ _ _ _ _ _ _ _ _ _ _ _ _ _ _ _ _ _ _ _ _ _ _ _ _ _ _ _ _ _ _ _ _ _ _ _ _ _ _ _ _ _ _ _ _ _ _ _ _ _ _ _ _ _ _ _ _ _ _ _ _ _ _ _ _ _ _ _ _ _ _ _ _ _ _ _ _ _ _ _ _ _ _ _ _ _ _ _ _ _ _ _ _ _ _ _ _ _ _ _ _ _ _ _ _ _ _ _ _ _ _ _ _ _ _ _ _ _ _ _ _ _ _ _ _ _ _ _ _ _ _ _ _ _ _ _ _ _ _ _ _ _ w' hSn hBn
        replace hSn := Lib.hid hSn
        replace hBn := Lib.hid hBn
        go_wp2_with fail
        go_roundw
        case rel => exact ⟨k + 1, l', x', ls', p'', cap'', sb'', by omega, by go_num, rfl, rfl, hSn, hBn⟩
        case measure => simp [intOf]; omega
      · obtain rfl : k = n := by omega
        have kz : ¬ (k : Int) < (k : Int) := by omega
        go_wp2_with fail
        go_ret
        exact ⟨rfl, hB1.out.trans (hBw.out.mono hB1.out.size)⟩
  · have cW' : Calls Try.prog 10 #[.slice p len cap, .pointer (some ⟨lb, 0, none⟩)] w4 fun e w' => e = .returned (.tuple #[.pointer none, .int .i64 (chkT cs)]) ∧ Below w4.heap.size w4 w' := cW.mono fun e w' h => ⟨h.1 hc, h.2.2.2⟩
    generalize chkT cs = g at *
    have hgz : (g != 0) = true := by simpa using hc
    replace cW' := Lib.hid cW'
    replace hc := Lib.hid hc
    clear cW
    go_upto_region 10 with (first | (go_at_call 10; (with_reducible refine cW'.out.mono ?_); rintro e w5 ⟨rfl, hB5⟩; have cC5 := Lib.hid (cC.out w5 hB5)) | (go_at_call 11; (with_reducible refine cC5.out.mono ?_); rintro e w6 ⟨rfl, hB6⟩))
    have hB46 := hB5.trans (hB6.mono hB5.size)
    have cC6 := Lib.hid (cC.out w6 hB46)
    have hB06 := hB1.out.trans ((hB14.out.trans (hB46.mono hB14.out.size)).mono hB1.out.size)
    replace hB5 := Lib.hid hB5
    replace hB6 := Lib.hid hB6
    replace hB46 := Lib.hid hB46
    replace hB06 := Lib.hid hB06
    clear cC5 cC
    go_wp2_with (first | (go_at_call 11; (with_reducible refine cC6.out.mono ?_); rintro e w7 ⟨rfl, hB7⟩; replace hB7 := Lib.hid hB7))
    go_ret
    exact ⟨by simp, chain_trans hB06.out hB7.out⟩
end Go.Proofs.Ytllhpdohahoelaa
