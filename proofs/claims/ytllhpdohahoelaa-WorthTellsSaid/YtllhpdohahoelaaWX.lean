/- A member's row of what was told is made anew: the law's region, apart. -/
import Derived.Test.YtllhpdohahoelaaWS
namespace Go.Proofs.Ytllhpdohahoelaa
open Go.RowKit
set_option linter.unusedVariables false

def cthn : Code → Code
  | .cond _ a _ => a
  | c => c
def cels : Code → Code
  | .cond _ _ b => b
  | c => c
noncomputable def cput26 : Code := cthn (cpath [1, 1] (cthn (cpath [2, 1] cswitch)))
noncomputable def cput21 : Code := cthn (cpath [1] (cels (cpath [1] (cels (cpath [1] (cels (cpath [1] (cels (cpath [2, 1] cswitch)))))))))
set_option maxHeartbeats 8000000 in
set_option maxRecDepth 100000 in
theorem put21_any {Q : Exit → Act → World → Prop} {rb sb kb gS nmS cS gR nmR cR g nc c m : Nat} {f : Nat → Int} {w : World}
    (x0 : w.cell? ⟨sb, 0, none⟩ = some (.slice (some ⟨gS, 0, none⟩) nmS cS)) (x1 : w.cell? ⟨rb, 0, none⟩ = some (.slice (some ⟨gR, 0, none⟩) nmR cR)) (x2 : w.cell? ⟨gR, m, none⟩ = some (.slice (some ⟨g, 0, none⟩) nc c)) (y1 : w.cell? ⟨kb, 1, none⟩ = some (.int .i64 (m : Int)))
    (hsl : sb < w.heap.size) (hrl : rb < w.heap.size) (hgl : gR < w.heap.size) (hkl : kb < w.heap.size) (hgR : g < w.heap.size) (hmS : (m : Int) < (nmS : Int)) (hmR : (m : Int) < (nmR : Int)) (hIR : IR w g f nc) (hn1 : 1 ≤ nc ∧ nc ≤ 1000)
    (hcell : ∀ w', Below w.heap.size w w' → ∃ v, w'.cell? ⟨gS, m, none⟩ = some v) (hfr : ∀ w', Below w.heap.size w w' → w'.frozen? ⟨gS, m, none⟩ = false)
    (u0 u1 u2 u3 u4 u5 u6 u7 u8 u9 u10 u11 u13 u14 u15 u17 u19 u20 u21 u22 u23 u24 u25 u26 u27 u28 u29 u30 u31 u32 u33 u34 u35 u36 u37 u38 u39 u40 u41 u42 u43 u44 u45 u46 u47 u48 u49 u50 u51 u52 u53 u54 u55 u56 u57 u58 u59 u60 u61 u62 u63 u64 u65 u66 u67 u68 u69 u70 u71 u72 u73 u74 u75 u76 u77 u78 u79 u80 u81 u82 u83 u84 u85 u86 u87 u88 u89 u90 u91 u92 u93 u94 u95 u96 u97 u98 u99 u100 u101 u102 u103 u104 u105 u106 u107 u108 u109 u110 u111 u112 u113 u114 u115 u116 u117 u118 u119 u120 u121 u122 u123 u124 u125 u126 u127 u128 u129 u130 u131 u132 u133 u134 u135 u136 u137 u138 u139 u140 u141 u142 u143 u144 u145 u146 u147 u148 u149 u150 u151 u152 u153 u154 u155 u156 u157 u158 u159 u160 u161 u162 u163 u164 u165 u166 u167 u168 u169 u170 u171 u172 u173 u174 u175 u176 u177 u178 u179 u180 u181 u182 u183 u184 u185 u186 u187 u188 u189 u190 u191 u192 u193 u194 u195 u196 u197 u198 u199 u200 u201 u202 u203 u204 u205 u206 u207 u208 u209 u210 u211 u212 u213 u214 u215 u216 u217 u218 u219 u220 u221 u222 u223 u224 u225 u226 u227 u228 u229 u230 u231 u232 u233 u234 u235 u236 u237 u238 u239 u240 u241 u242 u243 u244 u245 u246 u247 u248 u249 u250 u251 u252 u253 u254 u255 u256 u257 u258 u259 u260 u261 u262 u263 u264 u265 u266 u267 u268 u269 u270 u271 u272 u273 u274 u275 u276 u277 u278 u279 u280 u281 u282 u283 u284 u285 u286 u287 u288 u289 u290 u291 u292 u293 u294 u295 u296 u297 u298 u299 u300 u301 u302 u303 u304 u305 u306 u307 u308 u309 u310 u311 u312 u313 u314 u315 u316 u317 u318 u319 u320 u321 u322 u323 u324 u325 u326 u327 u328 u329 u330 u331 u332 u333 u334 u335 u336 u337 u338 u339 u340 u341 u342 u343 u344 u345 u346 u347 u348 u349 u350 u351 u352 u353 u354 u355 u356 u357 u358 u359 u360 u361 u362 u363 u364 u365 u366 u367 u368 u369 u370 u371 u372 u373 u374 u375 u376 u377 u378 u379 u380 u381 u382 u383 u384 u385 u386 u387 u388 u389 u390 u391 u392 : Value)
    (hK : ∀ (v129 v130 v131 v132 v133 v134 v135 v136 v137 v138 v139 v140 v141 v142 v143 v144 v145 : Value) (w7 : World) (g' c' : Nat), Below w.heap.size w w7 → w.heap.size ≤ g' → IR w7 g' f nc → Q .normal ({ tmps := (u0 :: u1 :: u2 :: u3 :: u4 :: u5 :: u6 :: u7 :: u8 :: u9 :: u10 :: u11 :: .pointer (some ⟨rb, 0, none⟩) :: u13 :: u14 :: u15 :: .pointer (some ⟨sb, 0, none⟩) :: u17 :: .pointer (some ⟨kb, 0, none⟩) :: u19 :: u20 :: u21 :: u22 :: u23 :: u24 :: u25 :: u26 :: u27 :: u28 :: u29 :: u30 :: u31 :: u32 :: u33 :: u34 :: u35 :: u36 :: u37 :: u38 :: u39 :: u40 :: u41 :: u42 :: u43 :: u44 :: u45 :: u46 :: u47 :: u48 :: u49 :: u50 :: u51 :: u52 :: u53 :: u54 :: u55 :: u56 :: u57 :: u58 :: u59 :: u60 :: u61 :: u62 :: u63 :: u64 :: u65 :: u66 :: u67 :: u68 :: u69 :: u70 :: u71 :: u72 :: u73 :: u74 :: u75 :: u76 :: u77 :: u78 :: u79 :: u80 :: u81 :: u82 :: u83 :: u84 :: u85 :: u86 :: u87 :: u88 :: u89 :: u90 :: u91 :: u92 :: u93 :: u94 :: u95 :: u96 :: u97 :: u98 :: u99 :: u100 :: u101 :: u102 :: u103 :: u104 :: u105 :: u106 :: u107 :: u108 :: u109 :: u110 :: u111 :: u112 :: u113 :: u114 :: u115 :: u116 :: u117 :: u118 :: u119 :: u120 :: u121 :: u122 :: u123 :: u124 :: u125 :: u126 :: u127 :: u128 :: v129 :: v130 :: v131 :: v132 :: v133 :: v134 :: v135 :: v136 :: v137 :: v138 :: v139 :: v140 :: v141 :: v142 :: v143 :: v144 :: v145 :: u146 :: u147 :: u148 :: u149 :: u150 :: u151 :: u152 :: u153 :: u154 :: u155 :: u156 :: u157 :: u158 :: u159 :: u160 :: u161 :: u162 :: u163 :: u164 :: u165 :: u166 :: u167 :: u168 :: u169 :: u170 :: u171 :: u172 :: u173 :: u174 :: u175 :: u176 :: u177 :: u178 :: u179 :: u180 :: u181 :: u182 :: u183 :: u184 :: u185 :: u186 :: u187 :: u188 :: u189 :: u190 :: u191 :: u192 :: u193 :: u194 :: u195 :: u196 :: u197 :: u198 :: u199 :: u200 :: u201 :: u202 :: u203 :: u204 :: u205 :: u206 :: u207 :: u208 :: u209 :: u210 :: u211 :: u212 :: u213 :: u214 :: u215 :: u216 :: u217 :: u218 :: u219 :: u220 :: u221 :: u222 :: u223 :: u224 :: u225 :: u226 :: u227 :: u228 :: u229 :: u230 :: u231 :: u232 :: u233 :: u234 :: u235 :: u236 :: u237 :: u238 :: u239 :: u240 :: u241 :: u242 :: u243 :: u244 :: u245 :: u246 :: u247 :: u248 :: u249 :: u250 :: u251 :: u252 :: u253 :: u254 :: u255 :: u256 :: u257 :: u258 :: u259 :: u260 :: u261 :: u262 :: u263 :: u264 :: u265 :: u266 :: u267 :: u268 :: u269 :: u270 :: u271 :: u272 :: u273 :: u274 :: u275 :: u276 :: u277 :: u278 :: u279 :: u280 :: u281 :: u282 :: u283 :: u284 :: u285 :: u286 :: u287 :: u288 :: u289 :: u290 :: u291 :: u292 :: u293 :: u294 :: u295 :: u296 :: u297 :: u298 :: u299 :: u300 :: u301 :: u302 :: u303 :: u304 :: u305 :: u306 :: u307 :: u308 :: u309 :: u310 :: u311 :: u312 :: u313 :: u314 :: u315 :: u316 :: u317 :: u318 :: u319 :: u320 :: u321 :: u322 :: u323 :: u324 :: u325 :: u326 :: u327 :: u328 :: u329 :: u330 :: u331 :: u332 :: u333 :: u334 :: u335 :: u336 :: u337 :: u338 :: u339 :: u340 :: u341 :: u342 :: u343 :: u344 :: u345 :: u346 :: u347 :: u348 :: u349 :: u350 :: u351 :: u352 :: u353 :: u354 :: u355 :: u356 :: u357 :: u358 :: u359 :: u360 :: u361 :: u362 :: u363 :: u364 :: u365 :: u366 :: u367 :: u368 :: u369 :: u370 :: u371 :: u372 :: u373 :: u374 :: u375 :: u376 :: u377 :: u378 :: u379 :: u380 :: u381 :: u382 :: u383 :: u384 :: u385 :: u386 :: u387 :: u388 :: u389 :: u390 :: u391 :: u392 :: []).toArray, defers := [] } : Act) (w7.setCell ⟨gS, m, none⟩ (.slice (some ⟨g', 0, none⟩) nc c'))) :
    Code.wp Try.prog cput21 Q ({ tmps := (u0 :: u1 :: u2 :: u3 :: u4 :: u5 :: u6 :: u7 :: u8 :: u9 :: u10 :: u11 :: .pointer (some ⟨rb, 0, none⟩) :: u13 :: u14 :: u15 :: .pointer (some ⟨sb, 0, none⟩) :: u17 :: .pointer (some ⟨kb, 0, none⟩) :: u19 :: u20 :: u21 :: u22 :: u23 :: u24 :: u25 :: u26 :: u27 :: u28 :: u29 :: u30 :: u31 :: u32 :: u33 :: u34 :: u35 :: u36 :: u37 :: u38 :: u39 :: u40 :: u41 :: u42 :: u43 :: u44 :: u45 :: u46 :: u47 :: u48 :: u49 :: u50 :: u51 :: u52 :: u53 :: u54 :: u55 :: u56 :: u57 :: u58 :: u59 :: u60 :: u61 :: u62 :: u63 :: u64 :: u65 :: u66 :: u67 :: u68 :: u69 :: u70 :: u71 :: u72 :: u73 :: u74 :: u75 :: u76 :: u77 :: u78 :: u79 :: u80 :: u81 :: u82 :: u83 :: u84 :: u85 :: u86 :: u87 :: u88 :: u89 :: u90 :: u91 :: u92 :: u93 :: u94 :: u95 :: u96 :: u97 :: u98 :: u99 :: u100 :: u101 :: u102 :: u103 :: u104 :: u105 :: u106 :: u107 :: u108 :: u109 :: u110 :: u111 :: u112 :: u113 :: u114 :: u115 :: u116 :: u117 :: u118 :: u119 :: u120 :: u121 :: u122 :: u123 :: u124 :: u125 :: u126 :: u127 :: u128 :: u129 :: u130 :: u131 :: u132 :: u133 :: u134 :: u135 :: u136 :: u137 :: u138 :: u139 :: u140 :: u141 :: u142 :: u143 :: u144 :: u145 :: u146 :: u147 :: u148 :: u149 :: u150 :: u151 :: u152 :: u153 :: u154 :: u155 :: u156 :: u157 :: u158 :: u159 :: u160 :: u161 :: u162 :: u163 :: u164 :: u165 :: u166 :: u167 :: u168 :: u169 :: u170 :: u171 :: u172 :: u173 :: u174 :: u175 :: u176 :: u177 :: u178 :: u179 :: u180 :: u181 :: u182 :: u183 :: u184 :: u185 :: u186 :: u187 :: u188 :: u189 :: u190 :: u191 :: u192 :: u193 :: u194 :: u195 :: u196 :: u197 :: u198 :: u199 :: u200 :: u201 :: u202 :: u203 :: u204 :: u205 :: u206 :: u207 :: u208 :: u209 :: u210 :: u211 :: u212 :: u213 :: u214 :: u215 :: u216 :: u217 :: u218 :: u219 :: u220 :: u221 :: u222 :: u223 :: u224 :: u225 :: u226 :: u227 :: u228 :: u229 :: u230 :: u231 :: u232 :: u233 :: u234 :: u235 :: u236 :: u237 :: u238 :: u239 :: u240 :: u241 :: u242 :: u243 :: u244 :: u245 :: u246 :: u247 :: u248 :: u249 :: u250 :: u251 :: u252 :: u253 :: u254 :: u255 :: u256 :: u257 :: u258 :: u259 :: u260 :: u261 :: u262 :: u263 :: u264 :: u265 :: u266 :: u267 :: u268 :: u269 :: u270 :: u271 :: u272 :: u273 :: u274 :: u275 :: u276 :: u277 :: u278 :: u279 :: u280 :: u281 :: u282 :: u283 :: u284 :: u285 :: u286 :: u287 :: u288 :: u289 :: u290 :: u291 :: u292 :: u293 :: u294 :: u295 :: u296 :: u297 :: u298 :: u299 :: u300 :: u301 :: u302 :: u303 :: u304 :: u305 :: u306 :: u307 :: u308 :: u309 :: u310 :: u311 :: u312 :: u313 :: u314 :: u315 :: u316 :: u317 :: u318 :: u319 :: u320 :: u321 :: u322 :: u323 :: u324 :: u325 :: u326 :: u327 :: u328 :: u329 :: u330 :: u331 :: u332 :: u333 :: u334 :: u335 :: u336 :: u337 :: u338 :: u339 :: u340 :: u341 :: u342 :: u343 :: u344 :: u345 :: u346 :: u347 :: u348 :: u349 :: u350 :: u351 :: u352 :: u353 :: u354 :: u355 :: u356 :: u357 :: u358 :: u359 :: u360 :: u361 :: u362 :: u363 :: u364 :: u365 :: u366 :: u367 :: u368 :: u369 :: u370 :: u371 :: u372 :: u373 :: u374 :: u375 :: u376 :: u377 :: u378 :: u379 :: u380 :: u381 :: u382 :: u383 :: u384 :: u385 :: u386 :: u387 :: u388 :: u389 :: u390 :: u391 :: u392 :: []).toArray, defers := [] } : Act) w := by
  replace hK := Lib.hid hK
  replace hIR := Lib.hid hIR
  replace hcell := hcell
  conv => arg 2; whnf
  refine wp_region_closed (by kernel_rfl) (fun L az wz => ∃ v129 v130 v131 v132 v133 v134 v135 v136 v137 v138 v139 v140 v141 v142 v143 v144 v145 : Value, az = ({ tmps := (u0 :: u1 :: u2 :: u3 :: u4 :: u5 :: u6 :: u7 :: u8 :: u9 :: u10 :: u11 :: .pointer (some ⟨rb, 0, none⟩) :: u13 :: u14 :: u15 :: .pointer (some ⟨sb, 0, none⟩) :: u17 :: .pointer (some ⟨kb, 0, none⟩) :: u19 :: u20 :: u21 :: u22 :: u23 :: u24 :: u25 :: u26 :: u27 :: u28 :: u29 :: u30 :: u31 :: u32 :: u33 :: u34 :: u35 :: u36 :: u37 :: u38 :: u39 :: u40 :: u41 :: u42 :: u43 :: u44 :: u45 :: u46 :: u47 :: u48 :: u49 :: u50 :: u51 :: u52 :: u53 :: u54 :: u55 :: u56 :: u57 :: u58 :: u59 :: u60 :: u61 :: u62 :: u63 :: u64 :: u65 :: u66 :: u67 :: u68 :: u69 :: u70 :: u71 :: u72 :: u73 :: u74 :: u75 :: u76 :: u77 :: u78 :: u79 :: u80 :: u81 :: u82 :: u83 :: u84 :: u85 :: u86 :: u87 :: u88 :: u89 :: u90 :: u91 :: u92 :: u93 :: u94 :: u95 :: u96 :: u97 :: u98 :: u99 :: u100 :: u101 :: u102 :: u103 :: u104 :: u105 :: u106 :: u107 :: u108 :: u109 :: u110 :: u111 :: u112 :: u113 :: u114 :: u115 :: u116 :: u117 :: u118 :: u119 :: u120 :: u121 :: u122 :: u123 :: u124 :: u125 :: u126 :: u127 :: u128 :: v129 :: v130 :: v131 :: v132 :: v133 :: v134 :: v135 :: v136 :: v137 :: v138 :: v139 :: v140 :: v141 :: v142 :: v143 :: v144 :: v145 :: u146 :: u147 :: u148 :: u149 :: u150 :: u151 :: u152 :: u153 :: u154 :: u155 :: u156 :: u157 :: u158 :: u159 :: u160 :: u161 :: u162 :: u163 :: u164 :: u165 :: u166 :: u167 :: u168 :: u169 :: u170 :: u171 :: u172 :: u173 :: u174 :: u175 :: u176 :: u177 :: u178 :: u179 :: u180 :: u181 :: u182 :: u183 :: u184 :: u185 :: u186 :: u187 :: u188 :: u189 :: u190 :: u191 :: u192 :: u193 :: u194 :: u195 :: u196 :: u197 :: u198 :: u199 :: u200 :: u201 :: u202 :: u203 :: u204 :: u205 :: u206 :: u207 :: u208 :: u209 :: u210 :: u211 :: u212 :: u213 :: u214 :: u215 :: u216 :: u217 :: u218 :: u219 :: u220 :: u221 :: u222 :: u223 :: u224 :: u225 :: u226 :: u227 :: u228 :: u229 :: u230 :: u231 :: u232 :: u233 :: u234 :: u235 :: u236 :: u237 :: u238 :: u239 :: u240 :: u241 :: u242 :: u243 :: u244 :: u245 :: u246 :: u247 :: u248 :: u249 :: u250 :: u251 :: u252 :: u253 :: u254 :: u255 :: u256 :: u257 :: u258 :: u259 :: u260 :: u261 :: u262 :: u263 :: u264 :: u265 :: u266 :: u267 :: u268 :: u269 :: u270 :: u271 :: u272 :: u273 :: u274 :: u275 :: u276 :: u277 :: u278 :: u279 :: u280 :: u281 :: u282 :: u283 :: u284 :: u285 :: u286 :: u287 :: u288 :: u289 :: u290 :: u291 :: u292 :: u293 :: u294 :: u295 :: u296 :: u297 :: u298 :: u299 :: u300 :: u301 :: u302 :: u303 :: u304 :: u305 :: u306 :: u307 :: u308 :: u309 :: u310 :: u311 :: u312 :: u313 :: u314 :: u315 :: u316 :: u317 :: u318 :: u319 :: u320 :: u321 :: u322 :: u323 :: u324 :: u325 :: u326 :: u327 :: u328 :: u329 :: u330 :: u331 :: u332 :: u333 :: u334 :: u335 :: u336 :: u337 :: u338 :: u339 :: u340 :: u341 :: u342 :: u343 :: u344 :: u345 :: u346 :: u347 :: u348 :: u349 :: u350 :: u351 :: u352 :: u353 :: u354 :: u355 :: u356 :: u357 :: u358 :: u359 :: u360 :: u361 :: u362 :: u363 :: u364 :: u365 :: u366 :: u367 :: u368 :: u369 :: u370 :: u371 :: u372 :: u373 :: u374 :: u375 :: u376 :: u377 :: u378 :: u379 :: u380 :: u381 :: u382 :: u383 :: u384 :: u385 :: u386 :: u387 :: u388 :: u389 :: u390 :: u391 :: u392 :: []).toArray, defers := [] } : Act) ∧ (L 17 = false → Below w.heap.size w wz) ∧ (L 6 = true → L 15 = false → ∃ S : Nat, v135 = .slice (some ⟨S, 0, none⟩) 0 0 ∧ wz.heap[S]? = some (.cells #[] 2 (0, 0)) ∧ w.heap.size ≤ S) ∧ (L 15 = true → L 17 = false → ∃ g' c' : Nat, v144 = .slice (some ⟨g', 0, none⟩) nc c' ∧ IR wz g' f nc ∧ w.heap.size ≤ g') ∧ (L 17 = true → ∃ (w7 : World) (g' c' : Nat), Below w.heap.size w w7 ∧ w.heap.size ≤ g' ∧ IR w7 g' f nc ∧ wz = w7.setCell ⟨gS, m, none⟩ (.slice (some ⟨g', 0, none⟩) nc c')) ∧ (L 0 = true → v129 = .pointer (some ⟨sb, 0, none⟩)) ∧ (L 1 = true → v130 = .pointer (some ⟨sb, 0, none⟩)) ∧ (L 2 = true → v131 = .pointer (some ⟨sb, 0, none⟩)) ∧ (L 3 = true → v132 = Value.slice (some ⟨gS, 0, none⟩) nmS cS) ∧ (L 4 = true → v133 = .pointer (some ⟨kb, 1, none⟩)) ∧ (L 5 = true → v134 = .int .i64 (m : Int)) ∧ (L 7 = true → v136 = .pointer (some ⟨rb, 0, none⟩)) ∧ (L 8 = true → v137 = .pointer (some ⟨rb, 0, none⟩)) ∧ (L 9 = true → v138 = .pointer (some ⟨rb, 0, none⟩)) ∧ (L 10 = true → v139 = Value.slice (some ⟨gR, 0, none⟩) nmR cR) ∧ (L 11 = true → v140 = .pointer (some ⟨kb, 1, none⟩)) ∧ (L 12 = true → v141 = .int .i64 (m : Int)) ∧ (L 13 = true → v142 = .pointer (some ⟨gR, m, none⟩)) ∧ (L 14 = true → v143 = Value.slice (some ⟨g, 0, none⟩) nc c) ∧ (L 16 = true → v145 = .pointer (some ⟨gS, m, none⟩))) (by kernel_rfl) ?_ ?_ ?_
  · exact ⟨_, _, _, _, _, _, _, _, _, _, _, _, _, _, _, _, _, rfl, fun _ => (Below.refl _ _).drew, nofun, nofun, nofun, nofun, nofun, nofun, nofun, nofun, nofun, nofun, nofun, nofun, nofun, nofun, nofun, nofun, nofun, nofun⟩
  · intro L az wz iz hiz hni hI hdep hcl
    obtain ⟨v129, v130, v131, v132, v133, v134, v135, v136, v137, v138, v139, v140, v141, v142, v143, v144, v145, rfl, hB, h6, h15, h17, k0, k1, k2, k3, k4, k5, k7, k8, k9, k10, k11, k12, k13, k14, k16⟩ := hI
    have hcase : iz = 0 ∨ iz = 1 ∨ iz = 2 ∨ iz = 3 ∨ iz = 4 ∨ iz = 5 ∨ iz = 6 ∨ iz = 7 ∨ iz = 8 ∨ iz = 9 ∨ iz = 10 ∨ iz = 11 ∨ iz = 12 ∨ iz = 13 ∨ iz = 14 ∨ iz = 15 ∨ iz = 16 ∨ iz = 17 := by
      have hi2 : iz < 18 := hiz
      omega
    rcases hcase with rfl | rfl | rfl | rfl | rfl | rfl | rfl | rfl | rfl | rfl | rfl | rfl | rfl | rfl | rfl | rfl | rfl | rfl
    · -- 0
      have hf17 : L 17 = false := by
        cases h : L 17 with
        | false => rfl
        | true => have := hcl 17 h 0 (by decide +kernel); rw [hni] at this; cases this
      have hBz := hB hf17
      refine wpOp_step rfl fun Kz hKz => ?_
      go_simp
      exact hKz _ _ ⟨_, _, _, _, _, _, _, _, _, _, _, _, _, _, _, _, _, rfl, fun _ => hBz, fun e f => h6 (add_ne e (by decide)) (by cases h : L 15 with | false => rfl | true => rw [add_old h] at f; cases f), fun e f => h15 (add_ne e (by decide)) hf17, fun e => absurd (add_ne e (by decide)) (by rw [hf17]; decide), fun _ => rfl, fun e => k1 (add_ne e (by decide)), fun e => k2 (add_ne e (by decide)), fun e => k3 (add_ne e (by decide)), fun e => k4 (add_ne e (by decide)), fun e => k5 (add_ne e (by decide)), fun e => k7 (add_ne e (by decide)), fun e => k8 (add_ne e (by decide)), fun e => k9 (add_ne e (by decide)), fun e => k10 (add_ne e (by decide)), fun e => k11 (add_ne e (by decide)), fun e => k12 (add_ne e (by decide)), fun e => k13 (add_ne e (by decide)), fun e => k14 (add_ne e (by decide)), fun e => k16 (add_ne e (by decide))⟩
    · -- 1
      have hf17 : L 17 = false := by
        cases h : L 17 with
        | false => rfl
        | true => have := hcl 17 h 1 (by decide +kernel); rw [hni] at this; cases this
      have hBz := hB hf17
      have e0 := k0 (hdep 0 (by decide +kernel))
      subst e0
      refine wpOp_step rfl fun Kz hKz => ?_
      go_simp
      exact hKz _ _ ⟨_, _, _, _, _, _, _, _, _, _, _, _, _, _, _, _, _, rfl, fun _ => hBz, fun e f => h6 (add_ne e (by decide)) (by cases h : L 15 with | false => rfl | true => rw [add_old h] at f; cases f), fun e f => h15 (add_ne e (by decide)) hf17, fun e => absurd (add_ne e (by decide)) (by rw [hf17]; decide), fun e => k0 (add_ne e (by decide)), fun _ => rfl, fun e => k2 (add_ne e (by decide)), fun e => k3 (add_ne e (by decide)), fun e => k4 (add_ne e (by decide)), fun e => k5 (add_ne e (by decide)), fun e => k7 (add_ne e (by decide)), fun e => k8 (add_ne e (by decide)), fun e => k9 (add_ne e (by decide)), fun e => k10 (add_ne e (by decide)), fun e => k11 (add_ne e (by decide)), fun e => k12 (add_ne e (by decide)), fun e => k13 (add_ne e (by decide)), fun e => k14 (add_ne e (by decide)), fun e => k16 (add_ne e (by decide))⟩
    · -- 2
      have hf17 : L 17 = false := by
        cases h : L 17 with
        | false => rfl
        | true => have := hcl 17 h 2 (by decide +kernel); rw [hni] at this; cases this
      have hBz := hB hf17
      have e1 := k1 (hdep 1 (by decide +kernel))
      subst e1
      refine wpOp_step rfl fun Kz hKz => ?_
      go_simp
      exact hKz _ _ ⟨_, _, _, _, _, _, _, _, _, _, _, _, _, _, _, _, _, rfl, fun _ => hBz, fun e f => h6 (add_ne e (by decide)) (by cases h : L 15 with | false => rfl | true => rw [add_old h] at f; cases f), fun e f => h15 (add_ne e (by decide)) hf17, fun e => absurd (add_ne e (by decide)) (by rw [hf17]; decide), fun e => k0 (add_ne e (by decide)), fun e => k1 (add_ne e (by decide)), fun _ => rfl, fun e => k3 (add_ne e (by decide)), fun e => k4 (add_ne e (by decide)), fun e => k5 (add_ne e (by decide)), fun e => k7 (add_ne e (by decide)), fun e => k8 (add_ne e (by decide)), fun e => k9 (add_ne e (by decide)), fun e => k10 (add_ne e (by decide)), fun e => k11 (add_ne e (by decide)), fun e => k12 (add_ne e (by decide)), fun e => k13 (add_ne e (by decide)), fun e => k14 (add_ne e (by decide)), fun e => k16 (add_ne e (by decide))⟩
    · -- 3
      have hf17 : L 17 = false := by
        cases h : L 17 with
        | false => rfl
        | true => have := hcl 17 h 3 (by decide +kernel); rw [hni] at this; cases this
      have hBz := hB hf17
      have e2 := k2 (hdep 2 (by decide +kernel))
      subst e2
      have z := (hBz.cell (p := ⟨sb, 0, none⟩) hsl).trans x0
      refine wpOp_step rfl fun Kz hKz => ?_
      go_simp
      exact hKz _ _ ⟨_, _, _, _, _, _, _, _, _, _, _, _, _, _, _, _, _, rfl, fun _ => hBz, fun e f => h6 (add_ne e (by decide)) (by cases h : L 15 with | false => rfl | true => rw [add_old h] at f; cases f), fun e f => h15 (add_ne e (by decide)) hf17, fun e => absurd (add_ne e (by decide)) (by rw [hf17]; decide), fun e => k0 (add_ne e (by decide)), fun e => k1 (add_ne e (by decide)), fun e => k2 (add_ne e (by decide)), fun _ => rfl, fun e => k4 (add_ne e (by decide)), fun e => k5 (add_ne e (by decide)), fun e => k7 (add_ne e (by decide)), fun e => k8 (add_ne e (by decide)), fun e => k9 (add_ne e (by decide)), fun e => k10 (add_ne e (by decide)), fun e => k11 (add_ne e (by decide)), fun e => k12 (add_ne e (by decide)), fun e => k13 (add_ne e (by decide)), fun e => k14 (add_ne e (by decide)), fun e => k16 (add_ne e (by decide))⟩
    · -- 4
      have hf17 : L 17 = false := by
        cases h : L 17 with
        | false => rfl
        | true => have := hcl 17 h 4 (by decide +kernel); rw [hni] at this; cases this
      have hBz := hB hf17
      refine wpOp_step rfl fun Kz hKz => ?_
      go_simp
      exact hKz _ _ ⟨_, _, _, _, _, _, _, _, _, _, _, _, _, _, _, _, _, rfl, fun _ => hBz, fun e f => h6 (add_ne e (by decide)) (by cases h : L 15 with | false => rfl | true => rw [add_old h] at f; cases f), fun e f => h15 (add_ne e (by decide)) hf17, fun e => absurd (add_ne e (by decide)) (by rw [hf17]; decide), fun e => k0 (add_ne e (by decide)), fun e => k1 (add_ne e (by decide)), fun e => k2 (add_ne e (by decide)), fun e => k3 (add_ne e (by decide)), fun _ => rfl, fun e => k5 (add_ne e (by decide)), fun e => k7 (add_ne e (by decide)), fun e => k8 (add_ne e (by decide)), fun e => k9 (add_ne e (by decide)), fun e => k10 (add_ne e (by decide)), fun e => k11 (add_ne e (by decide)), fun e => k12 (add_ne e (by decide)), fun e => k13 (add_ne e (by decide)), fun e => k14 (add_ne e (by decide)), fun e => k16 (add_ne e (by decide))⟩
    · -- 5
      have hf17 : L 17 = false := by
        cases h : L 17 with
        | false => rfl
        | true => have := hcl 17 h 5 (by decide +kernel); rw [hni] at this; cases this
      have hBz := hB hf17
      have e4 := k4 (hdep 4 (by decide +kernel))
      subst e4
      have z := (hBz.cell (p := ⟨kb, 1, none⟩) hkl).trans y1
      refine wpOp_step rfl fun Kz hKz => ?_
      go_simp
      exact hKz _ _ ⟨_, _, _, _, _, _, _, _, _, _, _, _, _, _, _, _, _, rfl, fun _ => hBz, fun e f => h6 (add_ne e (by decide)) (by cases h : L 15 with | false => rfl | true => rw [add_old h] at f; cases f), fun e f => h15 (add_ne e (by decide)) hf17, fun e => absurd (add_ne e (by decide)) (by rw [hf17]; decide), fun e => k0 (add_ne e (by decide)), fun e => k1 (add_ne e (by decide)), fun e => k2 (add_ne e (by decide)), fun e => k3 (add_ne e (by decide)), fun e => k4 (add_ne e (by decide)), fun _ => rfl, fun e => k7 (add_ne e (by decide)), fun e => k8 (add_ne e (by decide)), fun e => k9 (add_ne e (by decide)), fun e => k10 (add_ne e (by decide)), fun e => k11 (add_ne e (by decide)), fun e => k12 (add_ne e (by decide)), fun e => k13 (add_ne e (by decide)), fun e => k14 (add_ne e (by decide)), fun e => k16 (add_ne e (by decide))⟩
    · -- 6
      have hf17 : L 17 = false := by
        cases h : L 17 with
        | false => rfl
        | true => have := hcl 17 h 6 (by decide +kernel); rw [hni] at this; cases this
      have hBz := hB hf17
      have hbb : Below wz.heap.size wz (wz.alloc (.cells #[] 2)) := (Below.refl _ _).alloc (Nat.le_refl _) _
      have hBz2 := hBz.trans (hbb.mono hBz.size)
      have hsz6 := hBz.size
      refine wpOp_step rfl fun Kz hKz => ?_
      go_simp
      exact hKz _ _ ⟨_, _, _, _, _, _, _, _, _, _, _, _, _, _, _, _, _, rfl, fun _ => hBz2, fun _ _ => ⟨wz.heap.size, rfl, heap_alloc_new _ _, hsz6⟩, fun e f => (by obtain ⟨g', c', q1, q2, q3⟩ := h15 (add_ne e (by decide)) hf17; exact ⟨g', c', q1, q2.at (Below.heap_alloc _ _ _ q2.lt), q3⟩), fun e => absurd (add_ne e (by decide)) (by rw [hf17]; decide), fun e => k0 (add_ne e (by decide)), fun e => k1 (add_ne e (by decide)), fun e => k2 (add_ne e (by decide)), fun e => k3 (add_ne e (by decide)), fun e => k4 (add_ne e (by decide)), fun e => k5 (add_ne e (by decide)), fun e => k7 (add_ne e (by decide)), fun e => k8 (add_ne e (by decide)), fun e => k9 (add_ne e (by decide)), fun e => k10 (add_ne e (by decide)), fun e => k11 (add_ne e (by decide)), fun e => k12 (add_ne e (by decide)), fun e => k13 (add_ne e (by decide)), fun e => k14 (add_ne e (by decide)), fun e => k16 (add_ne e (by decide))⟩
    · -- 7
      have hf17 : L 17 = false := by
        cases h : L 17 with
        | false => rfl
        | true => have := hcl 17 h 7 (by decide +kernel); rw [hni] at this; cases this
      have hBz := hB hf17
      refine wpOp_step rfl fun Kz hKz => ?_
      go_simp
      exact hKz _ _ ⟨_, _, _, _, _, _, _, _, _, _, _, _, _, _, _, _, _, rfl, fun _ => hBz, fun e f => h6 (add_ne e (by decide)) (by cases h : L 15 with | false => rfl | true => rw [add_old h] at f; cases f), fun e f => h15 (add_ne e (by decide)) hf17, fun e => absurd (add_ne e (by decide)) (by rw [hf17]; decide), fun e => k0 (add_ne e (by decide)), fun e => k1 (add_ne e (by decide)), fun e => k2 (add_ne e (by decide)), fun e => k3 (add_ne e (by decide)), fun e => k4 (add_ne e (by decide)), fun e => k5 (add_ne e (by decide)), fun _ => rfl, fun e => k8 (add_ne e (by decide)), fun e => k9 (add_ne e (by decide)), fun e => k10 (add_ne e (by decide)), fun e => k11 (add_ne e (by decide)), fun e => k12 (add_ne e (by decide)), fun e => k13 (add_ne e (by decide)), fun e => k14 (add_ne e (by decide)), fun e => k16 (add_ne e (by decide))⟩
    · -- 8
      have hf17 : L 17 = false := by
        cases h : L 17 with
        | false => rfl
        | true => have := hcl 17 h 8 (by decide +kernel); rw [hni] at this; cases this
      have hBz := hB hf17
      have e7 := k7 (hdep 7 (by decide +kernel))
      subst e7
      refine wpOp_step rfl fun Kz hKz => ?_
      go_simp
      exact hKz _ _ ⟨_, _, _, _, _, _, _, _, _, _, _, _, _, _, _, _, _, rfl, fun _ => hBz, fun e f => h6 (add_ne e (by decide)) (by cases h : L 15 with | false => rfl | true => rw [add_old h] at f; cases f), fun e f => h15 (add_ne e (by decide)) hf17, fun e => absurd (add_ne e (by decide)) (by rw [hf17]; decide), fun e => k0 (add_ne e (by decide)), fun e => k1 (add_ne e (by decide)), fun e => k2 (add_ne e (by decide)), fun e => k3 (add_ne e (by decide)), fun e => k4 (add_ne e (by decide)), fun e => k5 (add_ne e (by decide)), fun e => k7 (add_ne e (by decide)), fun _ => rfl, fun e => k9 (add_ne e (by decide)), fun e => k10 (add_ne e (by decide)), fun e => k11 (add_ne e (by decide)), fun e => k12 (add_ne e (by decide)), fun e => k13 (add_ne e (by decide)), fun e => k14 (add_ne e (by decide)), fun e => k16 (add_ne e (by decide))⟩
    · -- 9
      have hf17 : L 17 = false := by
        cases h : L 17 with
        | false => rfl
        | true => have := hcl 17 h 9 (by decide +kernel); rw [hni] at this; cases this
      have hBz := hB hf17
      have e8 := k8 (hdep 8 (by decide +kernel))
      subst e8
      refine wpOp_step rfl fun Kz hKz => ?_
      go_simp
      exact hKz _ _ ⟨_, _, _, _, _, _, _, _, _, _, _, _, _, _, _, _, _, rfl, fun _ => hBz, fun e f => h6 (add_ne e (by decide)) (by cases h : L 15 with | false => rfl | true => rw [add_old h] at f; cases f), fun e f => h15 (add_ne e (by decide)) hf17, fun e => absurd (add_ne e (by decide)) (by rw [hf17]; decide), fun e => k0 (add_ne e (by decide)), fun e => k1 (add_ne e (by decide)), fun e => k2 (add_ne e (by decide)), fun e => k3 (add_ne e (by decide)), fun e => k4 (add_ne e (by decide)), fun e => k5 (add_ne e (by decide)), fun e => k7 (add_ne e (by decide)), fun e => k8 (add_ne e (by decide)), fun _ => rfl, fun e => k10 (add_ne e (by decide)), fun e => k11 (add_ne e (by decide)), fun e => k12 (add_ne e (by decide)), fun e => k13 (add_ne e (by decide)), fun e => k14 (add_ne e (by decide)), fun e => k16 (add_ne e (by decide))⟩
    · -- 10
      have hf17 : L 17 = false := by
        cases h : L 17 with
        | false => rfl
        | true => have := hcl 17 h 10 (by decide +kernel); rw [hni] at this; cases this
      have hBz := hB hf17
      have e9 := k9 (hdep 9 (by decide +kernel))
      subst e9
      have z := (hBz.cell (p := ⟨rb, 0, none⟩) hrl).trans x1
      refine wpOp_step rfl fun Kz hKz => ?_
      go_simp
      exact hKz _ _ ⟨_, _, _, _, _, _, _, _, _, _, _, _, _, _, _, _, _, rfl, fun _ => hBz, fun e f => h6 (add_ne e (by decide)) (by cases h : L 15 with | false => rfl | true => rw [add_old h] at f; cases f), fun e f => h15 (add_ne e (by decide)) hf17, fun e => absurd (add_ne e (by decide)) (by rw [hf17]; decide), fun e => k0 (add_ne e (by decide)), fun e => k1 (add_ne e (by decide)), fun e => k2 (add_ne e (by decide)), fun e => k3 (add_ne e (by decide)), fun e => k4 (add_ne e (by decide)), fun e => k5 (add_ne e (by decide)), fun e => k7 (add_ne e (by decide)), fun e => k8 (add_ne e (by decide)), fun e => k9 (add_ne e (by decide)), fun _ => rfl, fun e => k11 (add_ne e (by decide)), fun e => k12 (add_ne e (by decide)), fun e => k13 (add_ne e (by decide)), fun e => k14 (add_ne e (by decide)), fun e => k16 (add_ne e (by decide))⟩
    · -- 11
      have hf17 : L 17 = false := by
        cases h : L 17 with
        | false => rfl
        | true => have := hcl 17 h 11 (by decide +kernel); rw [hni] at this; cases this
      have hBz := hB hf17
      refine wpOp_step rfl fun Kz hKz => ?_
      go_simp
      exact hKz _ _ ⟨_, _, _, _, _, _, _, _, _, _, _, _, _, _, _, _, _, rfl, fun _ => hBz, fun e f => h6 (add_ne e (by decide)) (by cases h : L 15 with | false => rfl | true => rw [add_old h] at f; cases f), fun e f => h15 (add_ne e (by decide)) hf17, fun e => absurd (add_ne e (by decide)) (by rw [hf17]; decide), fun e => k0 (add_ne e (by decide)), fun e => k1 (add_ne e (by decide)), fun e => k2 (add_ne e (by decide)), fun e => k3 (add_ne e (by decide)), fun e => k4 (add_ne e (by decide)), fun e => k5 (add_ne e (by decide)), fun e => k7 (add_ne e (by decide)), fun e => k8 (add_ne e (by decide)), fun e => k9 (add_ne e (by decide)), fun e => k10 (add_ne e (by decide)), fun _ => rfl, fun e => k12 (add_ne e (by decide)), fun e => k13 (add_ne e (by decide)), fun e => k14 (add_ne e (by decide)), fun e => k16 (add_ne e (by decide))⟩
    · -- 12
      have hf17 : L 17 = false := by
        cases h : L 17 with
        | false => rfl
        | true => have := hcl 17 h 12 (by decide +kernel); rw [hni] at this; cases this
      have hBz := hB hf17
      have e11 := k11 (hdep 11 (by decide +kernel))
      subst e11
      have z := (hBz.cell (p := ⟨kb, 1, none⟩) hkl).trans y1
      refine wpOp_step rfl fun Kz hKz => ?_
      go_simp
      exact hKz _ _ ⟨_, _, _, _, _, _, _, _, _, _, _, _, _, _, _, _, _, rfl, fun _ => hBz, fun e f => h6 (add_ne e (by decide)) (by cases h : L 15 with | false => rfl | true => rw [add_old h] at f; cases f), fun e f => h15 (add_ne e (by decide)) hf17, fun e => absurd (add_ne e (by decide)) (by rw [hf17]; decide), fun e => k0 (add_ne e (by decide)), fun e => k1 (add_ne e (by decide)), fun e => k2 (add_ne e (by decide)), fun e => k3 (add_ne e (by decide)), fun e => k4 (add_ne e (by decide)), fun e => k5 (add_ne e (by decide)), fun e => k7 (add_ne e (by decide)), fun e => k8 (add_ne e (by decide)), fun e => k9 (add_ne e (by decide)), fun e => k10 (add_ne e (by decide)), fun e => k11 (add_ne e (by decide)), fun _ => rfl, fun e => k13 (add_ne e (by decide)), fun e => k14 (add_ne e (by decide)), fun e => k16 (add_ne e (by decide))⟩
    · -- 13
      have hf17 : L 17 = false := by
        cases h : L 17 with
        | false => rfl
        | true => have := hcl 17 h 13 (by decide +kernel); rw [hni] at this; cases this
      have hBz := hB hf17
      have e10 := k10 (hdep 10 (by decide +kernel))
      subst e10
      have e12 := k12 (hdep 12 (by decide +kernel))
      subst e12
      refine wpOp_step rfl fun Kz hKz => ?_
      go_simp
      exact hKz _ _ ⟨_, _, _, _, _, _, _, _, _, _, _, _, _, _, _, _, _, rfl, fun _ => hBz, fun e f => h6 (add_ne e (by decide)) (by cases h : L 15 with | false => rfl | true => rw [add_old h] at f; cases f), fun e f => h15 (add_ne e (by decide)) hf17, fun e => absurd (add_ne e (by decide)) (by rw [hf17]; decide), fun e => k0 (add_ne e (by decide)), fun e => k1 (add_ne e (by decide)), fun e => k2 (add_ne e (by decide)), fun e => k3 (add_ne e (by decide)), fun e => k4 (add_ne e (by decide)), fun e => k5 (add_ne e (by decide)), fun e => k7 (add_ne e (by decide)), fun e => k8 (add_ne e (by decide)), fun e => k9 (add_ne e (by decide)), fun e => k10 (add_ne e (by decide)), fun e => k11 (add_ne e (by decide)), fun e => k12 (add_ne e (by decide)), fun _ => rfl, fun e => k14 (add_ne e (by decide)), fun e => k16 (add_ne e (by decide))⟩
    · -- 14
      have hf17 : L 17 = false := by
        cases h : L 17 with
        | false => rfl
        | true => have := hcl 17 h 14 (by decide +kernel); rw [hni] at this; cases this
      have hBz := hB hf17
      have e13 := k13 (hdep 13 (by decide +kernel))
      subst e13
      have z := (hBz.cell (p := ⟨gR, m, none⟩) hgl).trans x2
      refine wpOp_step rfl fun Kz hKz => ?_
      go_simp
      exact hKz _ _ ⟨_, _, _, _, _, _, _, _, _, _, _, _, _, _, _, _, _, rfl, fun _ => hBz, fun e f => h6 (add_ne e (by decide)) (by cases h : L 15 with | false => rfl | true => rw [add_old h] at f; cases f), fun e f => h15 (add_ne e (by decide)) hf17, fun e => absurd (add_ne e (by decide)) (by rw [hf17]; decide), fun e => k0 (add_ne e (by decide)), fun e => k1 (add_ne e (by decide)), fun e => k2 (add_ne e (by decide)), fun e => k3 (add_ne e (by decide)), fun e => k4 (add_ne e (by decide)), fun e => k5 (add_ne e (by decide)), fun e => k7 (add_ne e (by decide)), fun e => k8 (add_ne e (by decide)), fun e => k9 (add_ne e (by decide)), fun e => k10 (add_ne e (by decide)), fun e => k11 (add_ne e (by decide)), fun e => k12 (add_ne e (by decide)), fun e => k13 (add_ne e (by decide)), fun _ => rfl, fun e => k16 (add_ne e (by decide))⟩
    · -- 15
      have hf17 : L 17 = false := by
        cases h : L 17 with
        | false => rfl
        | true => have := hcl 17 h 15 (by decide +kernel); rw [hni] at this; cases this
      have hBz := hB hf17
      obtain ⟨S, e6, hS6, hS6b⟩ := h6 (hdep 6 (by decide +kernel)) hni
      have e14 := k14 (hdep 14 (by decide +kernel))
      subst e6
      subst e14
      obtain ⟨g', c', w', hrun, hI, hge, hG⟩ := appI_run wz S g nc c f hS6 (hIR.out.at (hBz.block _ hgR)) hn1.1 hn1.2
      have hBz2 := hBz.grown hG hBz.size (fun k hk => by injection hk with hk; omega)
      refine wpOp_step rfl fun Kz hKz => ?_
      refine step_appR rfl (.tmp 135) (.tmp 143) 43 43 rfl _ _ _ _ rfl rfl hrun ?_
      go_simp
      exact hKz _ _ ⟨_, _, _, _, _, _, _, _, _, _, _, _, _, _, _, _, _, rfl, fun _ => hBz2, fun _ f => (by rw [show add L 15 15 = true from add_iff.2 (.inr rfl)] at f; cases f), fun _ _ => ⟨g', c', rfl, hI, by omega⟩, fun e => absurd (add_ne e (by decide)) (by rw [hf17]; decide), fun e => k0 (add_ne e (by decide)), fun e => k1 (add_ne e (by decide)), fun e => k2 (add_ne e (by decide)), fun e => k3 (add_ne e (by decide)), fun e => k4 (add_ne e (by decide)), fun e => k5 (add_ne e (by decide)), fun e => k7 (add_ne e (by decide)), fun e => k8 (add_ne e (by decide)), fun e => k9 (add_ne e (by decide)), fun e => k10 (add_ne e (by decide)), fun e => k11 (add_ne e (by decide)), fun e => k12 (add_ne e (by decide)), fun e => k13 (add_ne e (by decide)), fun e => k14 (add_ne e (by decide)), fun e => k16 (add_ne e (by decide))⟩
    · -- 16
      have hf17 : L 17 = false := by
        cases h : L 17 with
        | false => rfl
        | true => have := hcl 17 h 16 (by decide +kernel); rw [hni] at this; cases this
      have hBz := hB hf17
      have e3 := k3 (hdep 3 (by decide +kernel))
      subst e3
      have e5 := k5 (hdep 5 (by decide +kernel))
      subst e5
      refine wpOp_step rfl fun Kz hKz => ?_
      go_simp
      exact hKz _ _ ⟨_, _, _, _, _, _, _, _, _, _, _, _, _, _, _, _, _, rfl, fun _ => hBz, fun e f => h6 (add_ne e (by decide)) (by cases h : L 15 with | false => rfl | true => rw [add_old h] at f; cases f), fun e f => h15 (add_ne e (by decide)) hf17, fun e => absurd (add_ne e (by decide)) (by rw [hf17]; decide), fun e => k0 (add_ne e (by decide)), fun e => k1 (add_ne e (by decide)), fun e => k2 (add_ne e (by decide)), fun e => k3 (add_ne e (by decide)), fun e => k4 (add_ne e (by decide)), fun e => k5 (add_ne e (by decide)), fun e => k7 (add_ne e (by decide)), fun e => k8 (add_ne e (by decide)), fun e => k9 (add_ne e (by decide)), fun e => k10 (add_ne e (by decide)), fun e => k11 (add_ne e (by decide)), fun e => k12 (add_ne e (by decide)), fun e => k13 (add_ne e (by decide)), fun e => k14 (add_ne e (by decide)), fun _ => rfl⟩
    · -- 17
      obtain ⟨g', c', e15, hI, hge⟩ := h15 (hdep 15 (by decide +kernel)) hni
      have e16 := k16 (hdep 16 (by decide +kernel))
      subst e15
      subst e16
      have hBz := hB hni
      obtain ⟨vv, hvv⟩ := hcell wz hBz
      have hfz := hfr wz hBz
      refine wpOp_step rfl fun Kz hKz => ?_
      go_simp
      exact hKz _ _ ⟨_, _, _, _, _, _, _, _, _, _, _, _, _, _, _, _, _, rfl, fun e => (by rw [show add L 17 17 = true from add_iff.2 (.inr rfl)] at e; cases e), fun e f => absurd (hdep 15 (by decide +kernel)) (by rw [show L 15 = false from by cases h : L 15 with | false => rfl | true => rw [add_old h] at f; cases f]; decide), fun _ e => (by rw [show add L 17 17 = true from add_iff.2 (.inr rfl)] at e; cases e), fun _ => ⟨wz, g', c', hBz, hge, hI, rfl⟩, fun e => k0 (add_ne e (by decide)), fun e => k1 (add_ne e (by decide)), fun e => k2 (add_ne e (by decide)), fun e => k3 (add_ne e (by decide)), fun e => k4 (add_ne e (by decide)), fun e => k5 (add_ne e (by decide)), fun e => k7 (add_ne e (by decide)), fun e => k8 (add_ne e (by decide)), fun e => k9 (add_ne e (by decide)), fun e => k10 (add_ne e (by decide)), fun e => k11 (add_ne e (by decide)), fun e => k12 (add_ne e (by decide)), fun e => k13 (add_ne e (by decide)), fun e => k14 (add_ne e (by decide)), fun e => k16 (add_ne e (by decide))⟩
  · intro L az wz hI hL
    obtain ⟨v129, v130, v131, v132, v133, v134, v135, v136, v137, v138, v139, v140, v141, v142, v143, v144, v145, rfl, hB, h6, h15, h17, k0, k1, k2, k3, k4, k5, k7, k8, k9, k10, k11, k12, k13, k14, k16⟩ := hI
    obtain ⟨w7, g', c', q1, q2, q3, rfl⟩ := h17 (hL 17 (by decide))
    exact hK.out _ _ _ _ _ _ _ _ _ _ _ _ _ _ _ _ _ w7 g' c' q1 q2 q3
/-- what a put needs, and what comes of it -/
theorem TG.prep2 {B : Nat → Prop} {lb b rb sb : Nat} {l : LM} {x : WM} {ls : LM} {p : Option Addr} {cs : List Cur} {wr : World} {m : Nat} (h : TG B lb b rb sb l x l ls p cs wr) (hg : l.Good) (hn : ls.nm = l.nm ∧ ls.nc = l.nc) (hm : m < ls.nm) :
    ∃ gS cS gR cR g c, wr.cell? ⟨sb, 0, none⟩ = some (.slice (some ⟨gS, 0, none⟩) ls.nm cS) ∧ wr.cell? ⟨rb, 0, none⟩ = some (.slice (some ⟨gR, 0, none⟩) ls.nm cR) ∧ wr.cell? ⟨gR, m, none⟩ = some (.slice (some ⟨g, 0, none⟩) ls.nc c) ∧
      sb < wr.heap.size ∧ rb < wr.heap.size ∧ gR < wr.heap.size ∧ g < wr.heap.size ∧ IR wr g (l.B m) ls.nc ∧ (∀ w', Below wr.heap.size wr w' → ∃ v, w'.cell? ⟨gS, m, none⟩ = some v) ∧ (∀ w', Below wr.heap.size wr w' → w'.frozen? ⟨gS, m, none⟩ = false) ∧
      ∀ (w7 : World) (g' c' : Nat), Below wr.heap.size wr w7 → wr.heap.size ≤ g' → IR w7 g' (l.B m) ls.nc → TG B lb b rb sb l x l (ls.put l m) p cs (w7.setCell ⟨gS, m, none⟩ (.slice (some ⟨g', 0, none⟩) ls.nc c')) ∧ Kp (fun j => ¬ B j) wr (w7.setCell ⟨gS, m, none⟩ (.slice (some ⟨g', 0, none⟩) ls.nc c')) := by
  obtain ⟨KF, RF, SF, h⟩ := h
  obtain ⟨gS, cS, gN, cN, gs, cp, hs⟩ := h.s
  obtain ⟨gR, cR, gN', cN', gr, cr, hr⟩ := h.r
  have hml : m < l.nm := by rw [← hn.1]; exact hm
  obtain ⟨rr, hq1, hq2⟩ := hr.rows
  have hI : IR wr (gr m) (l.B m) ls.nc := by rw [hn.2]; exact hr.bal m hml
  refine ⟨gS, cS, gR, cR, gr m, cr m, hs.c0, ?_, ?_, obj_lt hs.obj, obj_lt hr.obj, obj_lt hq1, hI.lt, hI, fun w' hb => ?_, fun w' hb => ?_, fun w7 g' c' hb hge hI' => h.put hs hb hm hge hI' hn⟩
  · rw [hn.1]; exact hr.c0
  · rw [hn.2]; exact hr.row hml
  · exact ⟨_, (hs.kept (w' := w') fun j hj _ => hb.block j hj).row hm⟩
  · obtain ⟨rs, hr1, hr2⟩ := (hs.kept (w' := w') fun j hj _ => hb.block j hj).rows
    exact obj_free hr1 m
set_option maxHeartbeats 8000000 in
set_option maxRecDepth 100000 in
theorem put26_any {Q : Exit → Act → World → Prop} {rb sb kb gS nmS cS gR nmR cR g nc c m : Nat} {f : Nat → Int} {w : World}
    (x0 : w.cell? ⟨sb, 0, none⟩ = some (.slice (some ⟨gS, 0, none⟩) nmS cS)) (x1 : w.cell? ⟨rb, 0, none⟩ = some (.slice (some ⟨gR, 0, none⟩) nmR cR)) (x2 : w.cell? ⟨gR, m, none⟩ = some (.slice (some ⟨g, 0, none⟩) nc c)) (y1 : w.cell? ⟨kb, 1, none⟩ = some (.int .i64 (m : Int)))
    (hsl : sb < w.heap.size) (hrl : rb < w.heap.size) (hgl : gR < w.heap.size) (hkl : kb < w.heap.size) (hgR : g < w.heap.size) (hmS : (m : Int) < (nmS : Int)) (hmR : (m : Int) < (nmR : Int)) (hIR : IR w g f nc) (hn1 : 1 ≤ nc ∧ nc ≤ 1000)
    (hcell : ∀ w', Below w.heap.size w w' → ∃ v, w'.cell? ⟨gS, m, none⟩ = some v) (hfr : ∀ w', Below w.heap.size w w' → w'.frozen? ⟨gS, m, none⟩ = false)
    (u0 u1 u2 u3 u4 u5 u6 u7 u8 u9 u10 u11 u13 u14 u15 u17 u19 u20 u21 u22 u23 u24 u25 u26 u27 u28 u29 u30 u31 u32 u33 u34 u35 u36 u37 u38 u39 u40 u41 u42 u43 u44 u45 u46 u47 u48 u49 u50 u51 u52 u53 u54 u55 u56 u57 u58 u59 u60 u61 u62 u63 u64 u65 u66 u67 u68 u69 u70 u71 u72 u73 u74 u75 u76 u77 u78 u79 u80 u81 u82 u83 u84 u85 u86 u87 u88 u89 u90 u91 u92 u93 u94 u95 u96 u97 u98 u99 u100 u101 u102 u103 u104 u105 u106 u107 u108 u109 u110 u111 u112 u113 u114 u115 u116 u117 u118 u119 u120 u121 u122 u123 u124 u125 u126 u127 u128 u129 u130 u131 u132 u133 u134 u135 u136 u137 u138 u139 u140 u141 u142 u143 u144 u145 u146 u147 u148 u149 u150 u151 u152 u153 u154 u155 u156 u157 u158 u159 u160 u161 u162 u163 u164 u165 u166 u167 u168 u169 u170 u171 u172 u173 u174 u175 u176 u177 u178 u179 u180 u181 u182 u183 u184 u185 u186 u187 u188 u189 u190 u191 u192 u193 u194 u195 u196 u197 u198 u199 u200 u201 u202 u203 u204 u205 u206 u207 u208 u209 u210 u211 u212 u213 u214 u215 u216 u217 u218 u219 u220 u221 u222 u223 u224 u225 u226 u227 u228 u229 u230 u231 u232 u233 u234 u235 u236 u237 u238 u239 u240 u241 u242 u243 u244 u245 u246 u247 u248 u249 u250 u251 u252 u253 u254 u255 u256 u257 u258 u259 u260 u261 u262 u263 u264 u265 u266 u267 u268 u269 u270 u271 u272 u273 u274 u275 u276 u277 u278 u279 u280 u281 u282 u283 u284 u285 u286 u287 u288 u289 u290 u291 u292 u293 u294 u295 u296 u297 u298 u299 u300 u301 u302 u303 u304 u305 u306 u307 u308 u309 u310 u311 u312 u313 u314 u315 u316 u317 u318 u319 u320 u321 u322 u323 u324 u325 u326 u327 u328 u329 u330 u331 u332 u333 u334 u335 u336 u337 u338 u339 u340 u341 u342 u343 u344 u345 u346 u347 u348 u349 u350 u351 u352 u353 u354 u355 u356 u357 u358 u359 u360 u361 u362 u363 u364 u365 u366 u367 u368 u369 u370 u371 u372 u373 u374 u375 u376 u377 u378 u379 u380 u381 u382 u383 u384 u385 u386 u387 u388 u389 u390 u391 u392 : Value)
    (hK : ∀ (v171 v172 v173 v174 v175 v176 v177 v178 v179 v180 v181 v182 v183 v184 v185 v186 v187 : Value) (w7 : World) (g' c' : Nat), Below w.heap.size w w7 → w.heap.size ≤ g' → IR w7 g' f nc → Q .normal ({ tmps := (u0 :: u1 :: u2 :: u3 :: u4 :: u5 :: u6 :: u7 :: u8 :: u9 :: u10 :: u11 :: .pointer (some ⟨rb, 0, none⟩) :: u13 :: u14 :: u15 :: .pointer (some ⟨sb, 0, none⟩) :: u17 :: .pointer (some ⟨kb, 0, none⟩) :: u19 :: u20 :: u21 :: u22 :: u23 :: u24 :: u25 :: u26 :: u27 :: u28 :: u29 :: u30 :: u31 :: u32 :: u33 :: u34 :: u35 :: u36 :: u37 :: u38 :: u39 :: u40 :: u41 :: u42 :: u43 :: u44 :: u45 :: u46 :: u47 :: u48 :: u49 :: u50 :: u51 :: u52 :: u53 :: u54 :: u55 :: u56 :: u57 :: u58 :: u59 :: u60 :: u61 :: u62 :: u63 :: u64 :: u65 :: u66 :: u67 :: u68 :: u69 :: u70 :: u71 :: u72 :: u73 :: u74 :: u75 :: u76 :: u77 :: u78 :: u79 :: u80 :: u81 :: u82 :: u83 :: u84 :: u85 :: u86 :: u87 :: u88 :: u89 :: u90 :: u91 :: u92 :: u93 :: u94 :: u95 :: u96 :: u97 :: u98 :: u99 :: u100 :: u101 :: u102 :: u103 :: u104 :: u105 :: u106 :: u107 :: u108 :: u109 :: u110 :: u111 :: u112 :: u113 :: u114 :: u115 :: u116 :: u117 :: u118 :: u119 :: u120 :: u121 :: u122 :: u123 :: u124 :: u125 :: u126 :: u127 :: u128 :: u129 :: u130 :: u131 :: u132 :: u133 :: u134 :: u135 :: u136 :: u137 :: u138 :: u139 :: u140 :: u141 :: u142 :: u143 :: u144 :: u145 :: u146 :: u147 :: u148 :: u149 :: u150 :: u151 :: u152 :: u153 :: u154 :: u155 :: u156 :: u157 :: u158 :: u159 :: u160 :: u161 :: u162 :: u163 :: u164 :: u165 :: u166 :: u167 :: u168 :: u169 :: u170 :: v171 :: v172 :: v173 :: v174 :: v175 :: v176 :: v177 :: v178 :: v179 :: v180 :: v181 :: v182 :: v183 :: v184 :: v185 :: v186 :: v187 :: u188 :: u189 :: u190 :: u191 :: u192 :: u193 :: u194 :: u195 :: u196 :: u197 :: u198 :: u199 :: u200 :: u201 :: u202 :: u203 :: u204 :: u205 :: u206 :: u207 :: u208 :: u209 :: u210 :: u211 :: u212 :: u213 :: u214 :: u215 :: u216 :: u217 :: u218 :: u219 :: u220 :: u221 :: u222 :: u223 :: u224 :: u225 :: u226 :: u227 :: u228 :: u229 :: u230 :: u231 :: u232 :: u233 :: u234 :: u235 :: u236 :: u237 :: u238 :: u239 :: u240 :: u241 :: u242 :: u243 :: u244 :: u245 :: u246 :: u247 :: u248 :: u249 :: u250 :: u251 :: u252 :: u253 :: u254 :: u255 :: u256 :: u257 :: u258 :: u259 :: u260 :: u261 :: u262 :: u263 :: u264 :: u265 :: u266 :: u267 :: u268 :: u269 :: u270 :: u271 :: u272 :: u273 :: u274 :: u275 :: u276 :: u277 :: u278 :: u279 :: u280 :: u281 :: u282 :: u283 :: u284 :: u285 :: u286 :: u287 :: u288 :: u289 :: u290 :: u291 :: u292 :: u293 :: u294 :: u295 :: u296 :: u297 :: u298 :: u299 :: u300 :: u301 :: u302 :: u303 :: u304 :: u305 :: u306 :: u307 :: u308 :: u309 :: u310 :: u311 :: u312 :: u313 :: u314 :: u315 :: u316 :: u317 :: u318 :: u319 :: u320 :: u321 :: u322 :: u323 :: u324 :: u325 :: u326 :: u327 :: u328 :: u329 :: u330 :: u331 :: u332 :: u333 :: u334 :: u335 :: u336 :: u337 :: u338 :: u339 :: u340 :: u341 :: u342 :: u343 :: u344 :: u345 :: u346 :: u347 :: u348 :: u349 :: u350 :: u351 :: u352 :: u353 :: u354 :: u355 :: u356 :: u357 :: u358 :: u359 :: u360 :: u361 :: u362 :: u363 :: u364 :: u365 :: u366 :: u367 :: u368 :: u369 :: u370 :: u371 :: u372 :: u373 :: u374 :: u375 :: u376 :: u377 :: u378 :: u379 :: u380 :: u381 :: u382 :: u383 :: u384 :: u385 :: u386 :: u387 :: u388 :: u389 :: u390 :: u391 :: u392 :: []).toArray, defers := [] } : Act) (w7.setCell ⟨gS, m, none⟩ (.slice (some ⟨g', 0, none⟩) nc c'))) :
    Code.wp Try.prog cput26 Q ({ tmps := (u0 :: u1 :: u2 :: u3 :: u4 :: u5 :: u6 :: u7 :: u8 :: u9 :: u10 :: u11 :: .pointer (some ⟨rb, 0, none⟩) :: u13 :: u14 :: u15 :: .pointer (some ⟨sb, 0, none⟩) :: u17 :: .pointer (some ⟨kb, 0, none⟩) :: u19 :: u20 :: u21 :: u22 :: u23 :: u24 :: u25 :: u26 :: u27 :: u28 :: u29 :: u30 :: u31 :: u32 :: u33 :: u34 :: u35 :: u36 :: u37 :: u38 :: u39 :: u40 :: u41 :: u42 :: u43 :: u44 :: u45 :: u46 :: u47 :: u48 :: u49 :: u50 :: u51 :: u52 :: u53 :: u54 :: u55 :: u56 :: u57 :: u58 :: u59 :: u60 :: u61 :: u62 :: u63 :: u64 :: u65 :: u66 :: u67 :: u68 :: u69 :: u70 :: u71 :: u72 :: u73 :: u74 :: u75 :: u76 :: u77 :: u78 :: u79 :: u80 :: u81 :: u82 :: u83 :: u84 :: u85 :: u86 :: u87 :: u88 :: u89 :: u90 :: u91 :: u92 :: u93 :: u94 :: u95 :: u96 :: u97 :: u98 :: u99 :: u100 :: u101 :: u102 :: u103 :: u104 :: u105 :: u106 :: u107 :: u108 :: u109 :: u110 :: u111 :: u112 :: u113 :: u114 :: u115 :: u116 :: u117 :: u118 :: u119 :: u120 :: u121 :: u122 :: u123 :: u124 :: u125 :: u126 :: u127 :: u128 :: u129 :: u130 :: u131 :: u132 :: u133 :: u134 :: u135 :: u136 :: u137 :: u138 :: u139 :: u140 :: u141 :: u142 :: u143 :: u144 :: u145 :: u146 :: u147 :: u148 :: u149 :: u150 :: u151 :: u152 :: u153 :: u154 :: u155 :: u156 :: u157 :: u158 :: u159 :: u160 :: u161 :: u162 :: u163 :: u164 :: u165 :: u166 :: u167 :: u168 :: u169 :: u170 :: u171 :: u172 :: u173 :: u174 :: u175 :: u176 :: u177 :: u178 :: u179 :: u180 :: u181 :: u182 :: u183 :: u184 :: u185 :: u186 :: u187 :: u188 :: u189 :: u190 :: u191 :: u192 :: u193 :: u194 :: u195 :: u196 :: u197 :: u198 :: u199 :: u200 :: u201 :: u202 :: u203 :: u204 :: u205 :: u206 :: u207 :: u208 :: u209 :: u210 :: u211 :: u212 :: u213 :: u214 :: u215 :: u216 :: u217 :: u218 :: u219 :: u220 :: u221 :: u222 :: u223 :: u224 :: u225 :: u226 :: u227 :: u228 :: u229 :: u230 :: u231 :: u232 :: u233 :: u234 :: u235 :: u236 :: u237 :: u238 :: u239 :: u240 :: u241 :: u242 :: u243 :: u244 :: u245 :: u246 :: u247 :: u248 :: u249 :: u250 :: u251 :: u252 :: u253 :: u254 :: u255 :: u256 :: u257 :: u258 :: u259 :: u260 :: u261 :: u262 :: u263 :: u264 :: u265 :: u266 :: u267 :: u268 :: u269 :: u270 :: u271 :: u272 :: u273 :: u274 :: u275 :: u276 :: u277 :: u278 :: u279 :: u280 :: u281 :: u282 :: u283 :: u284 :: u285 :: u286 :: u287 :: u288 :: u289 :: u290 :: u291 :: u292 :: u293 :: u294 :: u295 :: u296 :: u297 :: u298 :: u299 :: u300 :: u301 :: u302 :: u303 :: u304 :: u305 :: u306 :: u307 :: u308 :: u309 :: u310 :: u311 :: u312 :: u313 :: u314 :: u315 :: u316 :: u317 :: u318 :: u319 :: u320 :: u321 :: u322 :: u323 :: u324 :: u325 :: u326 :: u327 :: u328 :: u329 :: u330 :: u331 :: u332 :: u333 :: u334 :: u335 :: u336 :: u337 :: u338 :: u339 :: u340 :: u341 :: u342 :: u343 :: u344 :: u345 :: u346 :: u347 :: u348 :: u349 :: u350 :: u351 :: u352 :: u353 :: u354 :: u355 :: u356 :: u357 :: u358 :: u359 :: u360 :: u361 :: u362 :: u363 :: u364 :: u365 :: u366 :: u367 :: u368 :: u369 :: u370 :: u371 :: u372 :: u373 :: u374 :: u375 :: u376 :: u377 :: u378 :: u379 :: u380 :: u381 :: u382 :: u383 :: u384 :: u385 :: u386 :: u387 :: u388 :: u389 :: u390 :: u391 :: u392 :: []).toArray, defers := [] } : Act) w := by
  replace hK := Lib.hid hK
  replace hIR := Lib.hid hIR
  replace hcell := hcell
  conv => arg 2; whnf
  refine wp_region_closed (by kernel_rfl) (fun L az wz => ∃ v171 v172 v173 v174 v175 v176 v177 v178 v179 v180 v181 v182 v183 v184 v185 v186 v187 : Value, az = ({ tmps := (u0 :: u1 :: u2 :: u3 :: u4 :: u5 :: u6 :: u7 :: u8 :: u9 :: u10 :: u11 :: .pointer (some ⟨rb, 0, none⟩) :: u13 :: u14 :: u15 :: .pointer (some ⟨sb, 0, none⟩) :: u17 :: .pointer (some ⟨kb, 0, none⟩) :: u19 :: u20 :: u21 :: u22 :: u23 :: u24 :: u25 :: u26 :: u27 :: u28 :: u29 :: u30 :: u31 :: u32 :: u33 :: u34 :: u35 :: u36 :: u37 :: u38 :: u39 :: u40 :: u41 :: u42 :: u43 :: u44 :: u45 :: u46 :: u47 :: u48 :: u49 :: u50 :: u51 :: u52 :: u53 :: u54 :: u55 :: u56 :: u57 :: u58 :: u59 :: u60 :: u61 :: u62 :: u63 :: u64 :: u65 :: u66 :: u67 :: u68 :: u69 :: u70 :: u71 :: u72 :: u73 :: u74 :: u75 :: u76 :: u77 :: u78 :: u79 :: u80 :: u81 :: u82 :: u83 :: u84 :: u85 :: u86 :: u87 :: u88 :: u89 :: u90 :: u91 :: u92 :: u93 :: u94 :: u95 :: u96 :: u97 :: u98 :: u99 :: u100 :: u101 :: u102 :: u103 :: u104 :: u105 :: u106 :: u107 :: u108 :: u109 :: u110 :: u111 :: u112 :: u113 :: u114 :: u115 :: u116 :: u117 :: u118 :: u119 :: u120 :: u121 :: u122 :: u123 :: u124 :: u125 :: u126 :: u127 :: u128 :: u129 :: u130 :: u131 :: u132 :: u133 :: u134 :: u135 :: u136 :: u137 :: u138 :: u139 :: u140 :: u141 :: u142 :: u143 :: u144 :: u145 :: u146 :: u147 :: u148 :: u149 :: u150 :: u151 :: u152 :: u153 :: u154 :: u155 :: u156 :: u157 :: u158 :: u159 :: u160 :: u161 :: u162 :: u163 :: u164 :: u165 :: u166 :: u167 :: u168 :: u169 :: u170 :: v171 :: v172 :: v173 :: v174 :: v175 :: v176 :: v177 :: v178 :: v179 :: v180 :: v181 :: v182 :: v183 :: v184 :: v185 :: v186 :: v187 :: u188 :: u189 :: u190 :: u191 :: u192 :: u193 :: u194 :: u195 :: u196 :: u197 :: u198 :: u199 :: u200 :: u201 :: u202 :: u203 :: u204 :: u205 :: u206 :: u207 :: u208 :: u209 :: u210 :: u211 :: u212 :: u213 :: u214 :: u215 :: u216 :: u217 :: u218 :: u219 :: u220 :: u221 :: u222 :: u223 :: u224 :: u225 :: u226 :: u227 :: u228 :: u229 :: u230 :: u231 :: u232 :: u233 :: u234 :: u235 :: u236 :: u237 :: u238 :: u239 :: u240 :: u241 :: u242 :: u243 :: u244 :: u245 :: u246 :: u247 :: u248 :: u249 :: u250 :: u251 :: u252 :: u253 :: u254 :: u255 :: u256 :: u257 :: u258 :: u259 :: u260 :: u261 :: u262 :: u263 :: u264 :: u265 :: u266 :: u267 :: u268 :: u269 :: u270 :: u271 :: u272 :: u273 :: u274 :: u275 :: u276 :: u277 :: u278 :: u279 :: u280 :: u281 :: u282 :: u283 :: u284 :: u285 :: u286 :: u287 :: u288 :: u289 :: u290 :: u291 :: u292 :: u293 :: u294 :: u295 :: u296 :: u297 :: u298 :: u299 :: u300 :: u301 :: u302 :: u303 :: u304 :: u305 :: u306 :: u307 :: u308 :: u309 :: u310 :: u311 :: u312 :: u313 :: u314 :: u315 :: u316 :: u317 :: u318 :: u319 :: u320 :: u321 :: u322 :: u323 :: u324 :: u325 :: u326 :: u327 :: u328 :: u329 :: u330 :: u331 :: u332 :: u333 :: u334 :: u335 :: u336 :: u337 :: u338 :: u339 :: u340 :: u341 :: u342 :: u343 :: u344 :: u345 :: u346 :: u347 :: u348 :: u349 :: u350 :: u351 :: u352 :: u353 :: u354 :: u355 :: u356 :: u357 :: u358 :: u359 :: u360 :: u361 :: u362 :: u363 :: u364 :: u365 :: u366 :: u367 :: u368 :: u369 :: u370 :: u371 :: u372 :: u373 :: u374 :: u375 :: u376 :: u377 :: u378 :: u379 :: u380 :: u381 :: u382 :: u383 :: u384 :: u385 :: u386 :: u387 :: u388 :: u389 :: u390 :: u391 :: u392 :: []).toArray, defers := [] } : Act) ∧ (L 17 = false → Below w.heap.size w wz) ∧ (L 6 = true → L 15 = false → ∃ S : Nat, v177 = .slice (some ⟨S, 0, none⟩) 0 0 ∧ wz.heap[S]? = some (.cells #[] 2 (0, 0)) ∧ w.heap.size ≤ S) ∧ (L 15 = true → L 17 = false → ∃ g' c' : Nat, v186 = .slice (some ⟨g', 0, none⟩) nc c' ∧ IR wz g' f nc ∧ w.heap.size ≤ g') ∧ (L 17 = true → ∃ (w7 : World) (g' c' : Nat), Below w.heap.size w w7 ∧ w.heap.size ≤ g' ∧ IR w7 g' f nc ∧ wz = w7.setCell ⟨gS, m, none⟩ (.slice (some ⟨g', 0, none⟩) nc c')) ∧ (L 0 = true → v171 = .pointer (some ⟨sb, 0, none⟩)) ∧ (L 1 = true → v172 = .pointer (some ⟨sb, 0, none⟩)) ∧ (L 2 = true → v173 = .pointer (some ⟨sb, 0, none⟩)) ∧ (L 3 = true → v174 = Value.slice (some ⟨gS, 0, none⟩) nmS cS) ∧ (L 4 = true → v175 = .pointer (some ⟨kb, 1, none⟩)) ∧ (L 5 = true → v176 = .int .i64 (m : Int)) ∧ (L 7 = true → v178 = .pointer (some ⟨rb, 0, none⟩)) ∧ (L 8 = true → v179 = .pointer (some ⟨rb, 0, none⟩)) ∧ (L 9 = true → v180 = .pointer (some ⟨rb, 0, none⟩)) ∧ (L 10 = true → v181 = Value.slice (some ⟨gR, 0, none⟩) nmR cR) ∧ (L 11 = true → v182 = .pointer (some ⟨kb, 1, none⟩)) ∧ (L 12 = true → v183 = .int .i64 (m : Int)) ∧ (L 13 = true → v184 = .pointer (some ⟨gR, m, none⟩)) ∧ (L 14 = true → v185 = Value.slice (some ⟨g, 0, none⟩) nc c) ∧ (L 16 = true → v187 = .pointer (some ⟨gS, m, none⟩))) (by kernel_rfl) ?_ ?_ ?_
  · exact ⟨_, _, _, _, _, _, _, _, _, _, _, _, _, _, _, _, _, rfl, fun _ => (Below.refl _ _).drew, nofun, nofun, nofun, nofun, nofun, nofun, nofun, nofun, nofun, nofun, nofun, nofun, nofun, nofun, nofun, nofun, nofun, nofun⟩
  · intro L az wz iz hiz hni hI hdep hcl
    obtain ⟨v171, v172, v173, v174, v175, v176, v177, v178, v179, v180, v181, v182, v183, v184, v185, v186, v187, rfl, hB, h6, h15, h17, k0, k1, k2, k3, k4, k5, k7, k8, k9, k10, k11, k12, k13, k14, k16⟩ := hI
    have hcase : iz = 0 ∨ iz = 1 ∨ iz = 2 ∨ iz = 3 ∨ iz = 4 ∨ iz = 5 ∨ iz = 6 ∨ iz = 7 ∨ iz = 8 ∨ iz = 9 ∨ iz = 10 ∨ iz = 11 ∨ iz = 12 ∨ iz = 13 ∨ iz = 14 ∨ iz = 15 ∨ iz = 16 ∨ iz = 17 := by
      have hi2 : iz < 18 := hiz
      omega
    rcases hcase with rfl | rfl | rfl | rfl | rfl | rfl | rfl | rfl | rfl | rfl | rfl | rfl | rfl | rfl | rfl | rfl | rfl | rfl
    · -- 0
      have hf17 : L 17 = false := by
        cases h : L 17 with
        | false => rfl
        | true => have := hcl 17 h 0 (by decide +kernel); rw [hni] at this; cases this
      have hBz := hB hf17
      refine wpOp_step rfl fun Kz hKz => ?_
      go_simp
      exact hKz _ _ ⟨_, _, _, _, _, _, _, _, _, _, _, _, _, _, _, _, _, rfl, fun _ => hBz, fun e f => h6 (add_ne e (by decide)) (by cases h : L 15 with | false => rfl | true => rw [add_old h] at f; cases f), fun e f => h15 (add_ne e (by decide)) hf17, fun e => absurd (add_ne e (by decide)) (by rw [hf17]; decide), fun _ => rfl, fun e => k1 (add_ne e (by decide)), fun e => k2 (add_ne e (by decide)), fun e => k3 (add_ne e (by decide)), fun e => k4 (add_ne e (by decide)), fun e => k5 (add_ne e (by decide)), fun e => k7 (add_ne e (by decide)), fun e => k8 (add_ne e (by decide)), fun e => k9 (add_ne e (by decide)), fun e => k10 (add_ne e (by decide)), fun e => k11 (add_ne e (by decide)), fun e => k12 (add_ne e (by decide)), fun e => k13 (add_ne e (by decide)), fun e => k14 (add_ne e (by decide)), fun e => k16 (add_ne e (by decide))⟩
    · -- 1
      have hf17 : L 17 = false := by
        cases h : L 17 with
        | false => rfl
        | true => have := hcl 17 h 1 (by decide +kernel); rw [hni] at this; cases this
      have hBz := hB hf17
      have e0 := k0 (hdep 0 (by decide +kernel))
      subst e0
      refine wpOp_step rfl fun Kz hKz => ?_
      go_simp
      exact hKz _ _ ⟨_, _, _, _, _, _, _, _, _, _, _, _, _, _, _, _, _, rfl, fun _ => hBz, fun e f => h6 (add_ne e (by decide)) (by cases h : L 15 with | false => rfl | true => rw [add_old h] at f; cases f), fun e f => h15 (add_ne e (by decide)) hf17, fun e => absurd (add_ne e (by decide)) (by rw [hf17]; decide), fun e => k0 (add_ne e (by decide)), fun _ => rfl, fun e => k2 (add_ne e (by decide)), fun e => k3 (add_ne e (by decide)), fun e => k4 (add_ne e (by decide)), fun e => k5 (add_ne e (by decide)), fun e => k7 (add_ne e (by decide)), fun e => k8 (add_ne e (by decide)), fun e => k9 (add_ne e (by decide)), fun e => k10 (add_ne e (by decide)), fun e => k11 (add_ne e (by decide)), fun e => k12 (add_ne e (by decide)), fun e => k13 (add_ne e (by decide)), fun e => k14 (add_ne e (by decide)), fun e => k16 (add_ne e (by decide))⟩
    · -- 2
      have hf17 : L 17 = false := by
        cases h : L 17 with
        | false => rfl
        | true => have := hcl 17 h 2 (by decide +kernel); rw [hni] at this; cases this
      have hBz := hB hf17
      have e1 := k1 (hdep 1 (by decide +kernel))
      subst e1
      refine wpOp_step rfl fun Kz hKz => ?_
      go_simp
      exact hKz _ _ ⟨_, _, _, _, _, _, _, _, _, _, _, _, _, _, _, _, _, rfl, fun _ => hBz, fun e f => h6 (add_ne e (by decide)) (by cases h : L 15 with | false => rfl | true => rw [add_old h] at f; cases f), fun e f => h15 (add_ne e (by decide)) hf17, fun e => absurd (add_ne e (by decide)) (by rw [hf17]; decide), fun e => k0 (add_ne e (by decide)), fun e => k1 (add_ne e (by decide)), fun _ => rfl, fun e => k3 (add_ne e (by decide)), fun e => k4 (add_ne e (by decide)), fun e => k5 (add_ne e (by decide)), fun e => k7 (add_ne e (by decide)), fun e => k8 (add_ne e (by decide)), fun e => k9 (add_ne e (by decide)), fun e => k10 (add_ne e (by decide)), fun e => k11 (add_ne e (by decide)), fun e => k12 (add_ne e (by decide)), fun e => k13 (add_ne e (by decide)), fun e => k14 (add_ne e (by decide)), fun e => k16 (add_ne e (by decide))⟩
    · -- 3
      have hf17 : L 17 = false := by
        cases h : L 17 with
        | false => rfl
        | true => have := hcl 17 h 3 (by decide +kernel); rw [hni] at this; cases this
      have hBz := hB hf17
      have e2 := k2 (hdep 2 (by decide +kernel))
      subst e2
      have z := (hBz.cell (p := ⟨sb, 0, none⟩) hsl).trans x0
      refine wpOp_step rfl fun Kz hKz => ?_
      go_simp
      exact hKz _ _ ⟨_, _, _, _, _, _, _, _, _, _, _, _, _, _, _, _, _, rfl, fun _ => hBz, fun e f => h6 (add_ne e (by decide)) (by cases h : L 15 with | false => rfl | true => rw [add_old h] at f; cases f), fun e f => h15 (add_ne e (by decide)) hf17, fun e => absurd (add_ne e (by decide)) (by rw [hf17]; decide), fun e => k0 (add_ne e (by decide)), fun e => k1 (add_ne e (by decide)), fun e => k2 (add_ne e (by decide)), fun _ => rfl, fun e => k4 (add_ne e (by decide)), fun e => k5 (add_ne e (by decide)), fun e => k7 (add_ne e (by decide)), fun e => k8 (add_ne e (by decide)), fun e => k9 (add_ne e (by decide)), fun e => k10 (add_ne e (by decide)), fun e => k11 (add_ne e (by decide)), fun e => k12 (add_ne e (by decide)), fun e => k13 (add_ne e (by decide)), fun e => k14 (add_ne e (by decide)), fun e => k16 (add_ne e (by decide))⟩
    · -- 4
      have hf17 : L 17 = false := by
        cases h : L 17 with
        | false => rfl
        | true => have := hcl 17 h 4 (by decide +kernel); rw [hni] at this; cases this
      have hBz := hB hf17
      refine wpOp_step rfl fun Kz hKz => ?_
      go_simp
      exact hKz _ _ ⟨_, _, _, _, _, _, _, _, _, _, _, _, _, _, _, _, _, rfl, fun _ => hBz, fun e f => h6 (add_ne e (by decide)) (by cases h : L 15 with | false => rfl | true => rw [add_old h] at f; cases f), fun e f => h15 (add_ne e (by decide)) hf17, fun e => absurd (add_ne e (by decide)) (by rw [hf17]; decide), fun e => k0 (add_ne e (by decide)), fun e => k1 (add_ne e (by decide)), fun e => k2 (add_ne e (by decide)), fun e => k3 (add_ne e (by decide)), fun _ => rfl, fun e => k5 (add_ne e (by decide)), fun e => k7 (add_ne e (by decide)), fun e => k8 (add_ne e (by decide)), fun e => k9 (add_ne e (by decide)), fun e => k10 (add_ne e (by decide)), fun e => k11 (add_ne e (by decide)), fun e => k12 (add_ne e (by decide)), fun e => k13 (add_ne e (by decide)), fun e => k14 (add_ne e (by decide)), fun e => k16 (add_ne e (by decide))⟩
    · -- 5
      have hf17 : L 17 = false := by
        cases h : L 17 with
        | false => rfl
        | true => have := hcl 17 h 5 (by decide +kernel); rw [hni] at this; cases this
      have hBz := hB hf17
      have e4 := k4 (hdep 4 (by decide +kernel))
      subst e4
      have z := (hBz.cell (p := ⟨kb, 1, none⟩) hkl).trans y1
      refine wpOp_step rfl fun Kz hKz => ?_
      go_simp
      exact hKz _ _ ⟨_, _, _, _, _, _, _, _, _, _, _, _, _, _, _, _, _, rfl, fun _ => hBz, fun e f => h6 (add_ne e (by decide)) (by cases h : L 15 with | false => rfl | true => rw [add_old h] at f; cases f), fun e f => h15 (add_ne e (by decide)) hf17, fun e => absurd (add_ne e (by decide)) (by rw [hf17]; decide), fun e => k0 (add_ne e (by decide)), fun e => k1 (add_ne e (by decide)), fun e => k2 (add_ne e (by decide)), fun e => k3 (add_ne e (by decide)), fun e => k4 (add_ne e (by decide)), fun _ => rfl, fun e => k7 (add_ne e (by decide)), fun e => k8 (add_ne e (by decide)), fun e => k9 (add_ne e (by decide)), fun e => k10 (add_ne e (by decide)), fun e => k11 (add_ne e (by decide)), fun e => k12 (add_ne e (by decide)), fun e => k13 (add_ne e (by decide)), fun e => k14 (add_ne e (by decide)), fun e => k16 (add_ne e (by decide))⟩
    · -- 6
      have hf17 : L 17 = false := by
        cases h : L 17 with
        | false => rfl
        | true => have := hcl 17 h 6 (by decide +kernel); rw [hni] at this; cases this
      have hBz := hB hf17
      have hbb : Below wz.heap.size wz (wz.alloc (.cells #[] 2)) := (Below.refl _ _).alloc (Nat.le_refl _) _
      have hBz2 := hBz.trans (hbb.mono hBz.size)
      have hsz6 := hBz.size
      refine wpOp_step rfl fun Kz hKz => ?_
      go_simp
      exact hKz _ _ ⟨_, _, _, _, _, _, _, _, _, _, _, _, _, _, _, _, _, rfl, fun _ => hBz2, fun _ _ => ⟨wz.heap.size, rfl, heap_alloc_new _ _, hsz6⟩, fun e f => (by obtain ⟨g', c', q1, q2, q3⟩ := h15 (add_ne e (by decide)) hf17; exact ⟨g', c', q1, q2.at (Below.heap_alloc _ _ _ q2.lt), q3⟩), fun e => absurd (add_ne e (by decide)) (by rw [hf17]; decide), fun e => k0 (add_ne e (by decide)), fun e => k1 (add_ne e (by decide)), fun e => k2 (add_ne e (by decide)), fun e => k3 (add_ne e (by decide)), fun e => k4 (add_ne e (by decide)), fun e => k5 (add_ne e (by decide)), fun e => k7 (add_ne e (by decide)), fun e => k8 (add_ne e (by decide)), fun e => k9 (add_ne e (by decide)), fun e => k10 (add_ne e (by decide)), fun e => k11 (add_ne e (by decide)), fun e => k12 (add_ne e (by decide)), fun e => k13 (add_ne e (by decide)), fun e => k14 (add_ne e (by decide)), fun e => k16 (add_ne e (by decide))⟩
    · -- 7
      have hf17 : L 17 = false := by
        cases h : L 17 with
        | false => rfl
        | true => have := hcl 17 h 7 (by decide +kernel); rw [hni] at this; cases this
      have hBz := hB hf17
      refine wpOp_step rfl fun Kz hKz => ?_
      go_simp
      exact hKz _ _ ⟨_, _, _, _, _, _, _, _, _, _, _, _, _, _, _, _, _, rfl, fun _ => hBz, fun e f => h6 (add_ne e (by decide)) (by cases h : L 15 with | false => rfl | true => rw [add_old h] at f; cases f), fun e f => h15 (add_ne e (by decide)) hf17, fun e => absurd (add_ne e (by decide)) (by rw [hf17]; decide), fun e => k0 (add_ne e (by decide)), fun e => k1 (add_ne e (by decide)), fun e => k2 (add_ne e (by decide)), fun e => k3 (add_ne e (by decide)), fun e => k4 (add_ne e (by decide)), fun e => k5 (add_ne e (by decide)), fun _ => rfl, fun e => k8 (add_ne e (by decide)), fun e => k9 (add_ne e (by decide)), fun e => k10 (add_ne e (by decide)), fun e => k11 (add_ne e (by decide)), fun e => k12 (add_ne e (by decide)), fun e => k13 (add_ne e (by decide)), fun e => k14 (add_ne e (by decide)), fun e => k16 (add_ne e (by decide))⟩
    · -- 8
      have hf17 : L 17 = false := by
        cases h : L 17 with
        | false => rfl
        | true => have := hcl 17 h 8 (by decide +kernel); rw [hni] at this; cases this
      have hBz := hB hf17
      have e7 := k7 (hdep 7 (by decide +kernel))
      subst e7
      refine wpOp_step rfl fun Kz hKz => ?_
      go_simp
      exact hKz _ _ ⟨_, _, _, _, _, _, _, _, _, _, _, _, _, _, _, _, _, rfl, fun _ => hBz, fun e f => h6 (add_ne e (by decide)) (by cases h : L 15 with | false => rfl | true => rw [add_old h] at f; cases f), fun e f => h15 (add_ne e (by decide)) hf17, fun e => absurd (add_ne e (by decide)) (by rw [hf17]; decide), fun e => k0 (add_ne e (by decide)), fun e => k1 (add_ne e (by decide)), fun e => k2 (add_ne e (by decide)), fun e => k3 (add_ne e (by decide)), fun e => k4 (add_ne e (by decide)), fun e => k5 (add_ne e (by decide)), fun e => k7 (add_ne e (by decide)), fun _ => rfl, fun e => k9 (add_ne e (by decide)), fun e => k10 (add_ne e (by decide)), fun e => k11 (add_ne e (by decide)), fun e => k12 (add_ne e (by decide)), fun e => k13 (add_ne e (by decide)), fun e => k14 (add_ne e (by decide)), fun e => k16 (add_ne e (by decide))⟩
    · -- 9
      have hf17 : L 17 = false := by
        cases h : L 17 with
        | false => rfl
        | true => have := hcl 17 h 9 (by decide +kernel); rw [hni] at this; cases this
      have hBz := hB hf17
      have e8 := k8 (hdep 8 (by decide +kernel))
      subst e8
      refine wpOp_step rfl fun Kz hKz => ?_
      go_simp
      exact hKz _ _ ⟨_, _, _, _, _, _, _, _, _, _, _, _, _, _, _, _, _, rfl, fun _ => hBz, fun e f => h6 (add_ne e (by decide)) (by cases h : L 15 with | false => rfl | true => rw [add_old h] at f; cases f), fun e f => h15 (add_ne e (by decide)) hf17, fun e => absurd (add_ne e (by decide)) (by rw [hf17]; decide), fun e => k0 (add_ne e (by decide)), fun e => k1 (add_ne e (by decide)), fun e => k2 (add_ne e (by decide)), fun e => k3 (add_ne e (by decide)), fun e => k4 (add_ne e (by decide)), fun e => k5 (add_ne e (by decide)), fun e => k7 (add_ne e (by decide)), fun e => k8 (add_ne e (by decide)), fun _ => rfl, fun e => k10 (add_ne e (by decide)), fun e => k11 (add_ne e (by decide)), fun e => k12 (add_ne e (by decide)), fun e => k13 (add_ne e (by decide)), fun e => k14 (add_ne e (by decide)), fun e => k16 (add_ne e (by decide))⟩
    · -- 10
      have hf17 : L 17 = false := by
        cases h : L 17 with
        | false => rfl
        | true => have := hcl 17 h 10 (by decide +kernel); rw [hni] at this; cases this
      have hBz := hB hf17
      have e9 := k9 (hdep 9 (by decide +kernel))
      subst e9
      have z := (hBz.cell (p := ⟨rb, 0, none⟩) hrl).trans x1
      refine wpOp_step rfl fun Kz hKz => ?_
      go_simp
      exact hKz _ _ ⟨_, _, _, _, _, _, _, _, _, _, _, _, _, _, _, _, _, rfl, fun _ => hBz, fun e f => h6 (add_ne e (by decide)) (by cases h : L 15 with | false => rfl | true => rw [add_old h] at f; cases f), fun e f => h15 (add_ne e (by decide)) hf17, fun e => absurd (add_ne e (by decide)) (by rw [hf17]; decide), fun e => k0 (add_ne e (by decide)), fun e => k1 (add_ne e (by decide)), fun e => k2 (add_ne e (by decide)), fun e => k3 (add_ne e (by decide)), fun e => k4 (add_ne e (by decide)), fun e => k5 (add_ne e (by decide)), fun e => k7 (add_ne e (by decide)), fun e => k8 (add_ne e (by decide)), fun e => k9 (add_ne e (by decide)), fun _ => rfl, fun e => k11 (add_ne e (by decide)), fun e => k12 (add_ne e (by decide)), fun e => k13 (add_ne e (by decide)), fun e => k14 (add_ne e (by decide)), fun e => k16 (add_ne e (by decide))⟩
    · -- 11
      have hf17 : L 17 = false := by
        cases h : L 17 with
        | false => rfl
        | true => have := hcl 17 h 11 (by decide +kernel); rw [hni] at this; cases this
      have hBz := hB hf17
      refine wpOp_step rfl fun Kz hKz => ?_
      go_simp
      exact hKz _ _ ⟨_, _, _, _, _, _, _, _, _, _, _, _, _, _, _, _, _, rfl, fun _ => hBz, fun e f => h6 (add_ne e (by decide)) (by cases h : L 15 with | false => rfl | true => rw [add_old h] at f; cases f), fun e f => h15 (add_ne e (by decide)) hf17, fun e => absurd (add_ne e (by decide)) (by rw [hf17]; decide), fun e => k0 (add_ne e (by decide)), fun e => k1 (add_ne e (by decide)), fun e => k2 (add_ne e (by decide)), fun e => k3 (add_ne e (by decide)), fun e => k4 (add_ne e (by decide)), fun e => k5 (add_ne e (by decide)), fun e => k7 (add_ne e (by decide)), fun e => k8 (add_ne e (by decide)), fun e => k9 (add_ne e (by decide)), fun e => k10 (add_ne e (by decide)), fun _ => rfl, fun e => k12 (add_ne e (by decide)), fun e => k13 (add_ne e (by decide)), fun e => k14 (add_ne e (by decide)), fun e => k16 (add_ne e (by decide))⟩
    · -- 12
      have hf17 : L 17 = false := by
        cases h : L 17 with
        | false => rfl
        | true => have := hcl 17 h 12 (by decide +kernel); rw [hni] at this; cases this
      have hBz := hB hf17
      have e11 := k11 (hdep 11 (by decide +kernel))
      subst e11
      have z := (hBz.cell (p := ⟨kb, 1, none⟩) hkl).trans y1
      refine wpOp_step rfl fun Kz hKz => ?_
      go_simp
      exact hKz _ _ ⟨_, _, _, _, _, _, _, _, _, _, _, _, _, _, _, _, _, rfl, fun _ => hBz, fun e f => h6 (add_ne e (by decide)) (by cases h : L 15 with | false => rfl | true => rw [add_old h] at f; cases f), fun e f => h15 (add_ne e (by decide)) hf17, fun e => absurd (add_ne e (by decide)) (by rw [hf17]; decide), fun e => k0 (add_ne e (by decide)), fun e => k1 (add_ne e (by decide)), fun e => k2 (add_ne e (by decide)), fun e => k3 (add_ne e (by decide)), fun e => k4 (add_ne e (by decide)), fun e => k5 (add_ne e (by decide)), fun e => k7 (add_ne e (by decide)), fun e => k8 (add_ne e (by decide)), fun e => k9 (add_ne e (by decide)), fun e => k10 (add_ne e (by decide)), fun e => k11 (add_ne e (by decide)), fun _ => rfl, fun e => k13 (add_ne e (by decide)), fun e => k14 (add_ne e (by decide)), fun e => k16 (add_ne e (by decide))⟩
    · -- 13
      have hf17 : L 17 = false := by
        cases h : L 17 with
        | false => rfl
        | true => have := hcl 17 h 13 (by decide +kernel); rw [hni] at this; cases this
      have hBz := hB hf17
      have e10 := k10 (hdep 10 (by decide +kernel))
      subst e10
      have e12 := k12 (hdep 12 (by decide +kernel))
      subst e12
      refine wpOp_step rfl fun Kz hKz => ?_
      go_simp
      exact hKz _ _ ⟨_, _, _, _, _, _, _, _, _, _, _, _, _, _, _, _, _, rfl, fun _ => hBz, fun e f => h6 (add_ne e (by decide)) (by cases h : L 15 with | false => rfl | true => rw [add_old h] at f; cases f), fun e f => h15 (add_ne e (by decide)) hf17, fun e => absurd (add_ne e (by decide)) (by rw [hf17]; decide), fun e => k0 (add_ne e (by decide)), fun e => k1 (add_ne e (by decide)), fun e => k2 (add_ne e (by decide)), fun e => k3 (add_ne e (by decide)), fun e => k4 (add_ne e (by decide)), fun e => k5 (add_ne e (by decide)), fun e => k7 (add_ne e (by decide)), fun e => k8 (add_ne e (by decide)), fun e => k9 (add_ne e (by decide)), fun e => k10 (add_ne e (by decide)), fun e => k11 (add_ne e (by decide)), fun e => k12 (add_ne e (by decide)), fun _ => rfl, fun e => k14 (add_ne e (by decide)), fun e => k16 (add_ne e (by decide))⟩
    · -- 14
      have hf17 : L 17 = false := by
        cases h : L 17 with
        | false => rfl
        | true => have := hcl 17 h 14 (by decide +kernel); rw [hni] at this; cases this
      have hBz := hB hf17
      have e13 := k13 (hdep 13 (by decide +kernel))
      subst e13
      have z := (hBz.cell (p := ⟨gR, m, none⟩) hgl).trans x2
      refine wpOp_step rfl fun Kz hKz => ?_
      go_simp
      exact hKz _ _ ⟨_, _, _, _, _, _, _, _, _, _, _, _, _, _, _, _, _, rfl, fun _ => hBz, fun e f => h6 (add_ne e (by decide)) (by cases h : L 15 with | false => rfl | true => rw [add_old h] at f; cases f), fun e f => h15 (add_ne e (by decide)) hf17, fun e => absurd (add_ne e (by decide)) (by rw [hf17]; decide), fun e => k0 (add_ne e (by decide)), fun e => k1 (add_ne e (by decide)), fun e => k2 (add_ne e (by decide)), fun e => k3 (add_ne e (by decide)), fun e => k4 (add_ne e (by decide)), fun e => k5 (add_ne e (by decide)), fun e => k7 (add_ne e (by decide)), fun e => k8 (add_ne e (by decide)), fun e => k9 (add_ne e (by decide)), fun e => k10 (add_ne e (by decide)), fun e => k11 (add_ne e (by decide)), fun e => k12 (add_ne e (by decide)), fun e => k13 (add_ne e (by decide)), fun _ => rfl, fun e => k16 (add_ne e (by decide))⟩
    · -- 15
      have hf17 : L 17 = false := by
        cases h : L 17 with
        | false => rfl
        | true => have := hcl 17 h 15 (by decide +kernel); rw [hni] at this; cases this
      have hBz := hB hf17
      obtain ⟨S, e6, hS6, hS6b⟩ := h6 (hdep 6 (by decide +kernel)) hni
      have e14 := k14 (hdep 14 (by decide +kernel))
      subst e6
      subst e14
      obtain ⟨g', c', w', hrun, hI, hge, hG⟩ := appI_run wz S g nc c f hS6 (hIR.out.at (hBz.block _ hgR)) hn1.1 hn1.2
      have hBz2 := hBz.grown hG hBz.size (fun k hk => by injection hk with hk; omega)
      refine wpOp_step rfl fun Kz hKz => ?_
      refine step_appR rfl (.tmp 177) (.tmp 185) 43 43 rfl _ _ _ _ rfl rfl hrun ?_
      go_simp
      exact hKz _ _ ⟨_, _, _, _, _, _, _, _, _, _, _, _, _, _, _, _, _, rfl, fun _ => hBz2, fun _ f => (by rw [show add L 15 15 = true from add_iff.2 (.inr rfl)] at f; cases f), fun _ _ => ⟨g', c', rfl, hI, by omega⟩, fun e => absurd (add_ne e (by decide)) (by rw [hf17]; decide), fun e => k0 (add_ne e (by decide)), fun e => k1 (add_ne e (by decide)), fun e => k2 (add_ne e (by decide)), fun e => k3 (add_ne e (by decide)), fun e => k4 (add_ne e (by decide)), fun e => k5 (add_ne e (by decide)), fun e => k7 (add_ne e (by decide)), fun e => k8 (add_ne e (by decide)), fun e => k9 (add_ne e (by decide)), fun e => k10 (add_ne e (by decide)), fun e => k11 (add_ne e (by decide)), fun e => k12 (add_ne e (by decide)), fun e => k13 (add_ne e (by decide)), fun e => k14 (add_ne e (by decide)), fun e => k16 (add_ne e (by decide))⟩
    · -- 16
      have hf17 : L 17 = false := by
        cases h : L 17 with
        | false => rfl
        | true => have := hcl 17 h 16 (by decide +kernel); rw [hni] at this; cases this
      have hBz := hB hf17
      have e3 := k3 (hdep 3 (by decide +kernel))
      subst e3
      have e5 := k5 (hdep 5 (by decide +kernel))
      subst e5
      refine wpOp_step rfl fun Kz hKz => ?_
      go_simp
      exact hKz _ _ ⟨_, _, _, _, _, _, _, _, _, _, _, _, _, _, _, _, _, rfl, fun _ => hBz, fun e f => h6 (add_ne e (by decide)) (by cases h : L 15 with | false => rfl | true => rw [add_old h] at f; cases f), fun e f => h15 (add_ne e (by decide)) hf17, fun e => absurd (add_ne e (by decide)) (by rw [hf17]; decide), fun e => k0 (add_ne e (by decide)), fun e => k1 (add_ne e (by decide)), fun e => k2 (add_ne e (by decide)), fun e => k3 (add_ne e (by decide)), fun e => k4 (add_ne e (by decide)), fun e => k5 (add_ne e (by decide)), fun e => k7 (add_ne e (by decide)), fun e => k8 (add_ne e (by decide)), fun e => k9 (add_ne e (by decide)), fun e => k10 (add_ne e (by decide)), fun e => k11 (add_ne e (by decide)), fun e => k12 (add_ne e (by decide)), fun e => k13 (add_ne e (by decide)), fun e => k14 (add_ne e (by decide)), fun _ => rfl⟩
    · -- 17
      obtain ⟨g', c', e15, hI, hge⟩ := h15 (hdep 15 (by decide +kernel)) hni
      have e16 := k16 (hdep 16 (by decide +kernel))
      subst e15
      subst e16
      have hBz := hB hni
      obtain ⟨vv, hvv⟩ := hcell wz hBz
      have hfz := hfr wz hBz
      refine wpOp_step rfl fun Kz hKz => ?_
      go_simp
      exact hKz _ _ ⟨_, _, _, _, _, _, _, _, _, _, _, _, _, _, _, _, _, rfl, fun e => (by rw [show add L 17 17 = true from add_iff.2 (.inr rfl)] at e; cases e), fun e f => absurd (hdep 15 (by decide +kernel)) (by rw [show L 15 = false from by cases h : L 15 with | false => rfl | true => rw [add_old h] at f; cases f]; decide), fun _ e => (by rw [show add L 17 17 = true from add_iff.2 (.inr rfl)] at e; cases e), fun _ => ⟨wz, g', c', hBz, hge, hI, rfl⟩, fun e => k0 (add_ne e (by decide)), fun e => k1 (add_ne e (by decide)), fun e => k2 (add_ne e (by decide)), fun e => k3 (add_ne e (by decide)), fun e => k4 (add_ne e (by decide)), fun e => k5 (add_ne e (by decide)), fun e => k7 (add_ne e (by decide)), fun e => k8 (add_ne e (by decide)), fun e => k9 (add_ne e (by decide)), fun e => k10 (add_ne e (by decide)), fun e => k11 (add_ne e (by decide)), fun e => k12 (add_ne e (by decide)), fun e => k13 (add_ne e (by decide)), fun e => k14 (add_ne e (by decide)), fun e => k16 (add_ne e (by decide))⟩
  · intro L az wz hI hL
    obtain ⟨v171, v172, v173, v174, v175, v176, v177, v178, v179, v180, v181, v182, v183, v184, v185, v186, v187, rfl, hB, h6, h15, h17, k0, k1, k2, k3, k4, k5, k7, k8, k9, k10, k11, k12, k13, k14, k16⟩ := hI
    obtain ⟨w7, g', c', q1, q2, q3, rfl⟩ := h17 (hL 17 (by decide))
    exact hK.out _ _ _ _ _ _ _ _ _ _ _ _ _ _ _ _ _ w7 g' c' q1 q2 q3
end Go.Proofs.Ytllhpdohahoelaa
