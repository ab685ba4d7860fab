/- DealStays' walk: what is settled or gone stays so, what is known is never forgotten. -/
import Derived.Test.YtflbggehgjllcaaDoorEE
namespace Go.Proofs.YtflbggehgjllcaaDoor
open Go.RowKit Go.Maps
set_option linter.unusedVariables false

theorem all_get {b : Bk} (h : b.Ok) {st : Int} {q : Nat} (hq : q < (b.all st).length) : (b.all st)[q] ∈ b.all st ∧ In64 (b.all st)[q] := ⟨List.getElem_mem hq, all_in h (List.getElem_mem hq)⟩
set_option maxHeartbeats 8000000 in
set_option maxRecDepth 100000 in
theorem stays_any (mem cur : Int) (p : Option Addr) (len cap : Nat) (ops : List XOp) (w : World) (hO : OpsX w p len ops) (hZ : SZ w) : Calls Tryd.prog 6 #[.int .i64 mem, .int .i64 cur, .slice p len cap] w fun e w' => e = .returned (.bool true) ∧ Below w.heap.size w w' := by
  have cw := awake_any w hZ
  rcases hnew : newR mem cur with _ | _
  · have cN := fun W => new_no mem cur W hnew
    replace hO := Lib.hid hO
    replace hZ := Lib.hid hZ
    replace cw := Lib.hid cw
    replace cN := Lib.hid cN
    replace hnew := Lib.hid hnew
    go_enter Tryd.func6, Tryd.ntmps6
    go_wp2_with (first | (go_at_call 7; (with_reducible refine cw.out.mono ?_); rintro e w1 ⟨rfl, hb1⟩; replace hb1 := Lib.hid hb1) | (go_at_call 8; (with_reducible refine (cN.out _).mono ?_); rintro e w2 ⟨rfl, rfl⟩))
    go_ret
    exact ⟨rfl, hb1.out⟩
  · have cN := fun W => BS.made (fun j => j < W.heap.size) mem cur W (fun j h => h) hnew
    have hmm := @run_makeMap Tryd.prog
    replace hO := Lib.hid hO
    replace hZ := Lib.hid hZ
    replace cw := Lib.hid cw
    replace cN := Lib.hid cN
    replace hnew := Lib.hid hnew
    go_enter Tryd.func6, Tryd.ntmps6
    go_upto_region 6 with (first | (go_at_call 7; (with_reducible refine cw.out.mono ?_); rintro e w1 ⟨rfl, hb1⟩; replace hb1 := Lib.hid hb1) | (go_at_call 8; (with_reducible refine (cN.out _).mono ?_); rintro e w2 ⟨gb, rfl, hB2, hb2, hgb⟩; replace hB2 := Lib.hid hB2; replace hb2 := Lib.hid hb2; replace hgb := Lib.hid hgb))
    go_upto_region 7 with (fail)
    have hb3 : Below w2.heap.size w2 (w2.alloc (.map #[] 0)) := (Below.refl _ _).alloc (Nat.le_refl _) _
    have hS0 : DS w gb w2.heap.size ⟨mem, cur, [], 0⟩ (fun _ => 0) [] (w2.alloc (.map #[] 0)) := by
      have h1 := hb1.out.size
      have h2 := hb2.out.size
      refine ⟨?_, ⟨_, World.ownsMap_made w2 Tryd.prog 3 _, KD.new⟩, hb1.out.trans ((hb2.out.trans (hb3.mono hb2.out.size)).mono hb1.out.size), by omega⟩
      exact hB2.out.more hb3 (fun j hj hg => by rcases hg with h | h <;> omega) (fun j hg => by have := hb3.size; rcases hg with h | h; omega; subst h; simp)
    have hK0 := Kept.new mem cur
    generalize hmb : w2.heap.size = mb at *
    generalize (w2.alloc (.map #[] 0)) = W0 at *
    replace hS0 := Lib.hid hS0
    replace hK0 := Lib.hid hK0
    replace hmb := Lib.hid hmb
    clear hb3 hB2 hb2 hgb cw cN hmm hb1
    go_upto_block 0 with fail
    go_cut [10, 11, 12, 13, 15] from 29 to 120 (fun v10 v11 v12 v13 v15 wc => ∃ b : Bk, Hid (b.mem = mem ∧ b.cur = cur) ∧ Hid (BS (fun j => j < w.heap.size ∨ j = mb) gb b wc) ∧ Hid (Below w.heap.size w wc))
    case first =>
      go_wp2_with fail
      go_loopw [10] (fun i wr => ∃ (k : Nat) (b : Bk) (f : Int → Int) (ks : List Int), k ≤ len ∧ k ≤ 60 ∧ i = .int .i64 (k : Int) ∧ Hid (b.mem = mem ∧ b.cur = cur) ∧ Hid (Kept b f ks) ∧ Hid (DS w gb mb b f ks wr)) (fun i _ => 60 - (intOf i).toNat)
      case atStart => exact ⟨0, _, _, _, by omega, by omega, rfl, Lib.hid ⟨rfl, rfl⟩, hK0, hS0⟩
      case round =>
        obtain ⟨k, b, f, ks, hk, hk6, rfl, hmc, hK, hS⟩ := hrel
        by_cases hkl : k < len
        · have hkz : (k : Int) < (len : Int) := by omega
          by_cases hk60 : k < 60
          · have hk6z : (k : Int) < 60 := by omega
            obtain ⟨x, hx⟩ : ∃ x, ops[k]? = some x := ⟨_, List.getElem?_eq_getElem (by rw [hO.out.1]; exact hkl)⟩
            have hxin : x.In := hO.out.2.2.1 x (List.mem_of_getElem? hx)
            obtain ⟨rb, off, rfl, q0, q1, q2, q3, q4, q5, q6, q7, q8, q9⟩ := (hO.out.kept hS.out.bl).at hx
            have hnx := heap_alloc_new wr (.cells #[.int .i64 x.Do, .int .i64 x.m, .int .i64 x.id, .int .i64 x.d.id, .int .i64 x.d.a, .int .i64 x.d.b, .int .i64 x.d.sc, .int .i64 x.d.bc, .int .i64 x.d.s, .int .i64 x.d.t] 35)
            have hSx : DS w gb mb b f ks (wr.alloc (.cells #[.int .i64 x.Do, .int .i64 x.m, .int .i64 x.id, .int .i64 x.d.id, .int .i64 x.d.a, .int .i64 x.d.b, .int .i64 x.d.sc, .int .i64 x.d.bc, .int .i64 x.d.s, .int .i64 x.d.t] 35)) := hS.out.below ((Below.refl _ _).alloc (Nat.le_refl _) _)
            clear hx
            replace hxin := Lib.hid hxin
            replace hnx := Lib.hid hnx
            replace hSx := Lib.hid hSx
            go_upto_block 2 with fail
            generalize hWx : (wr.alloc (.cells #[.int .i64 x.Do, .int .i64 x.m, .int .i64 x.id, .int .i64 x.d.id, .int .i64 x.d.a, .int .i64 x.d.b, .int .i64 x.d.sc, .int .i64 x.d.bc, .int .i64 x.d.s, .int .i64 x.d.t] 35)) = W1 at *
            replace hWx := Lib.hid hWx
            clear q0 q1 q2 q3 q4 q5 q6 q7 q8 q9
            have k0 : W1.cell? ⟨wr.heap.size, 0, none⟩ = some (.int .i64 x.Do) := obj_cell hnx.out rfl
            have k1 : W1.cell? ⟨wr.heap.size, 1, none⟩ = some (.int .i64 x.m) := obj_cell hnx.out rfl
            have k2 : W1.cell? ⟨wr.heap.size, 2, none⟩ = some (.int .i64 x.id) := obj_cell hnx.out rfl
            have k3 : W1.cell? ⟨wr.heap.size, 3, none⟩ = some (.int .i64 x.d.id) := obj_cell hnx.out rfl
            have k4 : W1.cell? ⟨wr.heap.size, 4, none⟩ = some (.int .i64 x.d.a) := obj_cell hnx.out rfl
            have k5 : W1.cell? ⟨wr.heap.size, 5, none⟩ = some (.int .i64 x.d.b) := obj_cell hnx.out rfl
            have k6 : W1.cell? ⟨wr.heap.size, 6, none⟩ = some (.int .i64 x.d.sc) := obj_cell hnx.out rfl
            have k7 : W1.cell? ⟨wr.heap.size, 7, none⟩ = some (.int .i64 x.d.bc) := obj_cell hnx.out rfl
            have k8 : W1.cell? ⟨wr.heap.size, 8, none⟩ = some (.int .i64 x.d.s) := obj_cell hnx.out rfl
            have k9 : W1.cell? ⟨wr.heap.size, 9, none⟩ = some (.int .i64 x.d.t) := obj_cell hnx.out rfl
            go_cut [] from 29 to 120 (fun wc => Hid (DS w gb mb (b.op x) f ks wc))
            case first =>
              have cSub := hSx.out.bs.sub x.d hxin.out.d
              have cRes := hSx.out.bs.res x.m x.id hxin.out.id
              have cSet := hSx.out.bs.set x.id hxin.out.id
              have cRem := hSx.out.bs.rem x.m
              unfold Dl.val at cSub
              have hop : b.op x = (if x.Do = 0 then (b.sub x.d).2 else if x.Do = 1 then (b.res x.m x.id).2 else if x.Do = 2 then (b.set x.id).2 else if x.Do = 3 then (b.rem x.m).2 else b) := rfl
              replace cSub := Lib.hid cSub
              replace cRes := Lib.hid cRes
              replace cSet := Lib.hid cSet
              replace cRem := Lib.hid cRem
              generalize b.op x = b1 at *
              by_cases e0 : x.Do = 0
              · rw [if_pos e0] at hop
                have h0 : (x.Do == 0) = true := by simpa using e0
                replace hop := Lib.hid hop
                replace e0 := Lib.hid e0
                go_wp2_with (go_at_call 18; (with_reducible refine cSub.out.mono ?_); rintro e W2 ⟨rfl, hB, hKp⟩; replace hB := Lib.hid hB; replace hKp := Lib.hid hKp)
                go_meet
                exact Lib.hid (hop.out ▸ hSx.out.op hB.out hKp.out)
              · rw [if_neg e0] at hop
                have h0 : (x.Do == 0) = false := by simpa using e0
                by_cases e1 : x.Do = 1
                · rw [if_pos e1] at hop
                  have h1 : (x.Do == 1) = true := by simpa using e1
                  replace hop := Lib.hid hop
                  replace e0 := Lib.hid e0
                  replace e1 := Lib.hid e1
                  go_wp2_with (go_at_call 20; (with_reducible refine cRes.out.mono ?_); rintro e W2 ⟨rfl, hB, hKp⟩; replace hB := Lib.hid hB; replace hKp := Lib.hid hKp)
                  go_meet
                  exact Lib.hid (hop.out ▸ hSx.out.op hB.out hKp.out)
                · rw [if_neg e1] at hop
                  have h1 : (x.Do == 1) = false := by simpa using e1
                  by_cases e2 : x.Do = 2
                  · rw [if_pos e2] at hop
                    have h2 : (x.Do == 2) = true := by simpa using e2
                    replace hop := Lib.hid hop
                    replace e0 := Lib.hid e0
                    replace e1 := Lib.hid e1
                    replace e2 := Lib.hid e2
                    go_wp2_with (go_at_call 21; (with_reducible refine cSet.out.mono ?_); rintro e W2 ⟨rfl, hB, hKp⟩; replace hB := Lib.hid hB; replace hKp := Lib.hid hKp)
                    go_meet
                    exact Lib.hid (hop.out ▸ hSx.out.op hB.out hKp.out)
                  · rw [if_neg e2] at hop
                    have h2 : (x.Do == 2) = false := by simpa using e2
                    by_cases e3 : x.Do = 3
                    · rw [if_pos e3] at hop
                      have h3 : (x.Do == 3) = true := by simpa using e3
                      replace hop := Lib.hid hop
                      replace e0 := Lib.hid e0
                      replace e1 := Lib.hid e1
                      replace e2 := Lib.hid e2
                      replace e3 := Lib.hid e3
                      go_wp2_with (go_at_call 23; (with_reducible refine cRem.out.mono ?_); rintro e W2 ⟨u, rfl, hu, hug, hB, hKp⟩; replace hB := Lib.hid hB; replace hKp := Lib.hid hKp; replace hu := Lib.hid hu; replace hug := Lib.hid hug)
                      go_meet
                      exact Lib.hid (hop.out ▸ hSx.out.op hB.out hKp.out)
                    · rw [if_neg e3] at hop
                      have h3 : (x.Do == 3) = false := by simpa using e3
                      replace hop := Lib.hid hop
                      replace e0 := Lib.hid e0
                      replace e1 := Lib.hid e1
                      replace e2 := Lib.hid e2
                      replace e3 := Lib.hid e3
                      go_wp2_with fail
                      go_meet
                      exact Lib.hid (hop.out ▸ hSx.out)
            case rest =>
              have hst := op_stays hS.out.bs.ok x hxin.out
              have hme := op_mem b x
              obtain ⟨b', hb'⟩ : ∃ b', b' = b.op x := ⟨_, rfl⟩
              rw [← hb'] at hcut hst hme
              have hok' : b'.Ok := hcut.out.bs.ok
              have hM0 : Mid b b' 1 [] f ks := hK.out.mid hst
              have hmc' : b'.mem = mem ∧ b'.cur = cur := ⟨hme.1.trans hmc.out.1, hme.2.trans hmc.out.2⟩
              replace hb' := Lib.hid hb'
              replace hst := Lib.hid hst
              replace hok' := Lib.hid hok'
              replace hM0 := Lib.hid hM0
              replace hmc' := Lib.hid hmc'
              clear hme k0 k1 k2 k3 k4 k5 k6 k7 k8 k9 hnx hSx hWx hxin
              go_wp2_with fail
              go_loopw [12, 13] (fun m s wr2 => ∃ (t : Nat) (f2 : Int → Int) (ks2 : List Int), t ≤ 4 ∧ s = .int .i64 ((t : Int) + 1) ∧ m = .int .i64 (cntA b' t : Nat) ∧ Hid (Mid b b' ((t : Int) + 1) [] f2 ks2) ∧ Hid (DS w gb mb b' f2 ks2 wr2)) (fun _ i _ => 5 - (intOf i).toNat)
              case atStart => exact ⟨0, f, ks, by omega, rfl, rfl, hM0, hcut⟩
              case round =>
                obtain ⟨t, f2, ks2, ht, rfl, rfl, hM, hD⟩ := hrel
                by_cases ht4 : t < 4
                · have htz : (t : Int) + 1 ≤ 4 := by omega
                  have cA := hD.out.bs.all ((t : Int) + 1)
                  have hLl : Hid ((b'.all ((t : Int) + 1)).length ≤ 200) := Lib.hid (all_le hok'.out _)
                  have hcn : Hid (cntA b' (t + 1) = cntA b' t + (b'.all ((t : Int) + 1)).length) := Lib.hid rfl
                  have hcl : cntA b' t ≤ 800 := by have := cntA_le hok'.out t (by omega); omega
                  obtain ⟨L, hL⟩ : ∃ L, L = b'.all ((t : Int) + 1) := ⟨_, rfl⟩
                  rw [← hL] at cA hLl hcn
                  replace hL := Lib.hid hL
                  replace cA := Lib.hid cA
                  obtain ⟨c0, hc0⟩ : ∃ c0, c0 = cntA b' t := ⟨_, rfl⟩
                  rw [← hc0] at hcn hcl ⊢
                  replace hc0 := Lib.hid hc0
                  obtain ⟨n, hn⟩ : ∃ n, n = L.length := ⟨_, rfl⟩
                  have hn2 : n ≤ 200 := by have := hLl.out; omega
                  have cA2 : Calls Tryd.prog 14 #[.pointer (some ⟨gb, 0, none⟩), .int .i64 ((t : Int) + 1)] wr fun e w' => ∃ pp cc, e = .returned (.slice pp n cc) ∧ ZR wr w' (.slice pp n cc) L ∧ (0 < n → ∃ g, pp = some ⟨g, 0, none⟩) := by
                    refine cA.out.mono ?_
                    rintro e w' ⟨u, rfl, hu⟩
                    obtain ⟨pp, cc, rfl, -, -, -⟩ := orow_shape hu.row
                    refine ⟨pp, cc, by rw [hn], by rw [hn]; exact hu, fun h0 => ?_⟩
                    obtain ⟨g, c1, cur, e1, _⟩ := orow_some hu.row (by omega)
                    injection e1 with e1 _ _
                    exact ⟨g, e1⟩
                  replace cA := Lib.hid cA2
                  clear cA2
                  replace hn := Lib.hid hn
                  go_wp2_with (go_at_call 14; (with_reducible refine cA.out.mono ?_); rintro e w4 ⟨pp, cc, rfl, hu, hps⟩; replace hu := Lib.hid hu; replace hps := Lib.hid hps)
                  have hD4 := Lib.hid (hD.out.below hu.out.bl)
                  have hgm : Hid (∀ g, pp = some ⟨g, 0, none⟩ → g ≠ mb) := Lib.hid fun g e => by
                    have h1 := hu.out.own g (by subst e; rfl)
                    have h2 := hD.out.mlt
                    omega
                  have hR4 := Lib.hid hu.out.row
                  clear hu
                  go_loopw [12, 79] (fun m j wr3 => ∃ (q : Nat) (f3 : Int → Int) (ks3 : List Int), q ≤ n ∧ j = .int .i64 (q : Int) ∧ m = .int .i64 ((c0 + q : Nat) : Int) ∧ Hid (Mid b b' ((t : Int) + 1) (L.take q) f3 ks3) ∧ Hid (DS w gb mb b' f3 ks3 wr3) ∧ Hid (IRow wr3 (.slice pp n cc) L)) (fun _ j _ => n - (intOf j).toNat)
                  case atStart => exact ⟨0, f2, ks2, by omega, rfl, rfl, hM, hD4, hR4⟩
                  case round =>
                    obtain ⟨q, f3, ks3, hq, rfl, rfl, hM3, hD3, hR3⟩ := hrel
                    by_cases hqn : q < n
                    · have hqz : (q : Int) < (n : Int) := by omega
                      obtain ⟨g, rfl⟩ := hps.out (by omega)
                      have hqL : q < L.length := by rw [← hn.out]; exact hqn
                      obtain ⟨id, hidd⟩ : ∃ id, id = L[q] := ⟨_, rfl⟩
                      have hcell : wr.cell? ⟨g, q, none⟩ = some (.int .i64 id) := by
                        have h1 := hR3.out.at_ (g := g) rfl hqL
                        rw [List.getD_eq_getElem?_getD, List.getElem?_eq_getElem hqL] at h1
                        rw [hidd]; exact h1
                      have hmem : id ∈ b'.all ((t : Int) + 1) := by rw [hidd, ← hL.out]; exact List.getElem_mem hqL
                      have hin := all_in hok'.out hmem
                      have hstt := hD3.out.bs.state id hin
                      rw [all_state hok'.out hmem] at hstt
                      obtain ⟨D, hDo, hDk⟩ := hD3.out.mp
                      have hlook := hD3.out.look hDo hDk hin
                      obtain ⟨hok1, hok2⟩ := hM3.out.ok hok'.out hst.out hmem
                      have hstep := hM3.out.step hok'.out (by omega) hmem
                      rw [show L.take q ++ [id] = L.take (q + 1) by rw [List.take_succ_eq_append_getElem hqL, hidd]] at hstep
                      have hput := fun n w4 => hD3.out.put (n := n) (w' := w4) (s := (t : Int) + 1) hin hDo hDk
                      have hkle : ks3.length < maxLen := by have := ks_le hM3.out hok'.out; unfold maxLen; omega
                      have hval : plainElem (H := Value) Tryd.prog 3 (.int .i64 ((t : Int) + 1)) = some (.lit (.int .i64 ((t : Int) + 1)), []) := plainElem_int Tryd.underlying3 (WalkArith.wf_i64 (by omega))
                      have hkey := key_int hin
                      have hcp : 0 ≤ f3 id := by
                        rcases hM3.out.or_ id with h1 | h1
                        · have := state_rng hok'.out id; omega
                        · have := state_rng hS.out.bs.ok id; omega
                      generalize f3 id = c at hlook hok1 hok2 hcp
                      replace hidd := Lib.hid hidd
                      replace hqL := Lib.hid hqL
                      replace hmem := Lib.hid hmem
                      replace hin := Lib.hid hin
                      replace hstt := Lib.hid hstt
                      replace hDo := Lib.hid hDo
                      replace hDk := Lib.hid hDk
                      replace hstep := Lib.hid hstep
                      replace hput := Lib.hid hput
                      replace hval := Lib.hid hval
                      replace hkey := Lib.hid hkey
                      replace hkle := Lib.hid hkle
                      by_cases hc3 : 3 ≤ c
                      · obtain rfl := hok1 hc3
                        have g1 : ((t : Int) + 1 == 2) = false := by simp; omega
                        have g2 : ¬ (t : Int) + 1 < 3 := by omega
                        clear hcp hok1 hok2
                        go_wp2_with (first | (go_at_call 19; (with_reducible refine hstt.out.mono ?_); rintro e w' ⟨rfl, rfl⟩) | (at_mapUpdate; refine wpList_mapUpdate_own _ rfl _ _ _ 53 rfl 3 3 keyInt Tryd.underlying53 _ mb _ D rfl hDo.out hkle.out _ _ (.int .i64 id) rfl rfl hkey.out (.lit (.int .i64 ((t : Int) + 1))) [] hval.out ?_; intro w4 hm4 hg4; replace hm4 := Lib.hid hm4; replace hg4 := Lib.hid hg4))
                        obtain ⟨hD5, hKp5⟩ := hput.out _ w4 hm4.out ⟨hg4.out.os, hg4.out.tape, hg4.out.output, hg4.out.size, hg4.out.block⟩
                        have hR5 := orow_kp hR3.out hKp5 fun g' hg' e => by
                          simp [Value.ownBlock] at hg'
                          exact hgm.out g rfl (hg'.trans e)
                        go_roundw
                        case rel => exact ⟨q + 1, _, _, by omega, by go_num, by go_num, hstep, Lib.hid hD5, Lib.hid hR5⟩
                        case measure => simp [intOf]; omega
                      · have hcv : c = 0 ∨ c = 1 ∨ c = 2 := by have := hcp; omega
                        clear hc3 hcp
                        rcases hcv with rfl | rfl | rfl
                        · clear hok1 hok2
                          go_wp2_with (first | (go_at_call 19; (with_reducible refine hstt.out.mono ?_); rintro e w' ⟨rfl, rfl⟩) | (at_mapUpdate; refine wpList_mapUpdate_own _ rfl _ _ _ 53 rfl 3 3 keyInt Tryd.underlying53 _ mb _ D rfl hDo.out hkle.out _ _ (.int .i64 id) rfl rfl hkey.out (.lit (.int .i64 ((t : Int) + 1))) [] hval.out ?_; intro w4 hm4 hg4; replace hm4 := Lib.hid hm4; replace hg4 := Lib.hid hg4))
                          obtain ⟨hD5, hKp5⟩ := hput.out _ w4 hm4.out ⟨hg4.out.os, hg4.out.tape, hg4.out.output, hg4.out.size, hg4.out.block⟩
                          have hR5 := orow_kp hR3.out hKp5 fun g' hg' e => by
                            simp [Value.ownBlock] at hg'
                            exact hgm.out g rfl (hg'.trans e)
                          go_roundw
                          case rel => exact ⟨q + 1, _, _, by omega, by go_num, by go_num, hstep, Lib.hid hD5, Lib.hid hR5⟩
                          case measure => simp [intOf]; omega
                        · clear hok1 hok2
                          go_wp2_with (first | (go_at_call 19; (with_reducible refine hstt.out.mono ?_); rintro e w' ⟨rfl, rfl⟩) | (at_mapUpdate; refine wpList_mapUpdate_own _ rfl _ _ _ 53 rfl 3 3 keyInt Tryd.underlying53 _ mb _ D rfl hDo.out hkle.out _ _ (.int .i64 id) rfl rfl hkey.out (.lit (.int .i64 ((t : Int) + 1))) [] hval.out ?_; intro w4 hm4 hg4; replace hm4 := Lib.hid hm4; replace hg4 := Lib.hid hg4))
                          obtain ⟨hD5, hKp5⟩ := hput.out _ w4 hm4.out ⟨hg4.out.os, hg4.out.tape, hg4.out.output, hg4.out.size, hg4.out.block⟩
                          have hR5 := orow_kp hR3.out hKp5 fun g' hg' e => by
                            simp [Value.ownBlock] at hg'
                            exact hgm.out g rfl (hg'.trans e)
                          go_roundw
                          case rel => exact ⟨q + 1, _, _, by omega, by go_num, by go_num, hstep, Lib.hid hD5, Lib.hid hR5⟩
                          case measure => simp [intOf]; omega
                        · have g3 : ((t : Int) + 1 == 1) = false := by have := hok2 rfl; simpa using this
                          clear hok1 hok2
                          go_wp2_with (first | (go_at_call 19; (with_reducible refine hstt.out.mono ?_); rintro e w' ⟨rfl, rfl⟩) | (at_mapUpdate; refine wpList_mapUpdate_own _ rfl _ _ _ 53 rfl 3 3 keyInt Tryd.underlying53 _ mb _ D rfl hDo.out hkle.out _ _ (.int .i64 id) rfl rfl hkey.out (.lit (.int .i64 ((t : Int) + 1))) [] hval.out ?_; intro w4 hm4 hg4; replace hm4 := Lib.hid hm4; replace hg4 := Lib.hid hg4))
                          obtain ⟨hD5, hKp5⟩ := hput.out _ w4 hm4.out ⟨hg4.out.os, hg4.out.tape, hg4.out.output, hg4.out.size, hg4.out.block⟩
                          have hR5 := orow_kp hR3.out hKp5 fun g' hg' e => by
                            simp [Value.ownBlock] at hg'
                            exact hgm.out g rfl (hg'.trans e)
                          go_roundw
                          case rel => exact ⟨q + 1, _, _, by omega, by go_num, by go_num, hstep, Lib.hid hD5, Lib.hid hR5⟩
                          case measure => simp [intOf]; omega
                    · obtain rfl : q = n := by omega
                      have hqz : ¬ (q : Int) < (q : Int) := by omega
                      go_wp2_with fail
                      have hce : cntA b' (t + 1) = c0 + q := by have h1 := hcn.out; have h2 := hn.out; omega
                      have hMn : Mid b b' (((t + 1 : Nat) : Int) + 1) [] f3 ks3 := by
                        have h1 := hM3.out
                        rw [List.take_of_length_le (by have := hn.out; omega), hL.out] at h1
                        have h2 := h1.next hok'.out (by omega)
                        exact h2
                      go_roundw
                      case rel => exact ⟨t + 1, f3, ks3, by omega, by go_num, by rw [hce], Lib.hid hMn, hD3⟩
                      case measure => simp [intOf]; omega
                · obtain rfl : t = 4 := by omega
                  have htz : ¬ ((4 : Nat) : Int) + 1 ≤ 4 := by omega
                  have hKf := hM.out.kept hok'.out hst.out
                  obtain ⟨D, hDo, hDk⟩ := hD.out.mp
                  have hlen := hDo.len Tryd.underlying53 3
                  rw [hDk.size, hKf.len hok'.out] at hlen
                  go_wp2_with fail
                  go_roundw
                  case rel => exact ⟨k + 1, b', f2, ks2, by omega, by omega, by go_num, hmc', Lib.hid hKf, hD⟩
                  case measure => simp [intOf]; omega
          · obtain rfl : k = 60 := by omega
            have hk6z : ¬ ((60 : Nat) : Int) < 60 := by omega
            go_wp2_with fail
            go_meet
            exact ⟨b, hmc, Lib.hid hS.out.bs, Lib.hid hS.out.bl⟩
        · obtain rfl : k = len := by omega
          have hkz : ¬ (k : Int) < (k : Int) := by omega
          go_wp2_with fail
          go_meet
          exact ⟨b, hmc, Lib.hid hS.out.bs, Lib.hid hS.out.bl⟩
    case rest =>
      obtain ⟨b, hmc, hB, hL⟩ := hcut
      have cT := hB.out.text (hZ.out.below hL.out)
      obtain ⟨T, hT⟩ : ∃ T : ByteArray, Value.string T = sv b.text := ⟨_, rfl⟩
      have cR : ∀ V, Below wc.heap.size wc V → Calls Tryd.prog 16 #[.string T, .int .i64 mem, .int .i64 cur] V fun e w' => ∃ gc, e = .returned (.tuple #[.pointer (some ⟨gc, 0, none⟩), .int .i64 0]) ∧ BS (fun j => j < V.heap.size) gc b w' ∧ Below V.heap.size V w' ∧ V.heap.size ≤ gc := fun V hb => by
        have h1 := BS.reads (fun j => j < V.heap.size) hB.out.ok V (fun j h => h) (hZ.out.below (hL.out.trans (hb.mono hL.out.size)))
        rw [hmc.out.1, hmc.out.2, ← hT] at h1
        exact h1
      rw [← hT] at cT
      replace cT := Lib.hid cT
      replace cR := Lib.hid cR
      replace hT := Lib.hid hT
      go_upto_region 35 with (first | ((go_at_call 11; (with_reducible refine cT.out.mono ?_); rintro e V2 ⟨rfl, hb8⟩)) | ((go_at_call 16; (with_reducible refine (cR.out V2 hb8).mono ?_); rintro e V3 ⟨gc, rfl, hC, hb9, hgc⟩)))
      have hB3 := (hB.out.below hb8).below hb9
      have hL3 : Below w.heap.size w V3 := hL.out.trans ((hb8.trans (hb9.mono hb8.size)).mono hL.out.size)
      have cTc : ∀ V, Below V3.heap.size V3 V → Calls Tryd.prog 11 #[.pointer (some ⟨gc, 0, none⟩)] V fun e w' => e = .returned (.string T) ∧ Below V.heap.size V w' := fun V hb => by
        rw [hT.out]; exact (hC.below hb).text (hZ.out.below (hL3.trans (hb.mono hL3.size)))
      have cTb : ∀ V, Below V3.heap.size V3 V → Calls Tryd.prog 11 #[.pointer (some ⟨gb, 0, none⟩)] V fun e w' => e = .returned (.string T) ∧ Below V.heap.size V w' := fun V hb => by
        rw [hT.out]; exact (hB3.below hb).text (hZ.out.below (hL3.trans (hb.mono hL3.size)))
      have cAc : ∀ V, Below V3.heap.size V3 V → Calls Tryd.prog 14 #[.pointer (some ⟨gc, 0, none⟩), .int .i64 2] V fun e w' => ∃ u, e = .returned u ∧ ZR V w' u (b.all 2) := fun V hb => (hC.below hb).all 2
      have cAb : ∀ V, Below V3.heap.size V3 V → Calls Tryd.prog 14 #[.pointer (some ⟨gb, 0, none⟩), .int .i64 2] V fun e w' => ∃ u, e = .returned u ∧ ZR V w' u (b.all 2) := fun V hb => (hB3.below hb).all 2
      have cS : ∀ u v V V', ZR V V' u (b.all 2) → ∀ V2, ZR V' V2 v (b.all 2) → Calls Tryd.prog 13 #[u, v] V2 fun e w' => e = .returned (.bool true) ∧ ∃ n, w' = V2.drewN n := fun u v V V' hu V2 hv => by
        have h1 := same_any u v (b.all 2) (b.all 2) V2 (orow_kept hu.row fun g hg => hv.bl.block g (World.ownsRow.lt hu.row g hg).2) hv.row (by have := all_le hB3.ok 2; omega) (by have := all_le hB3.ok 2; omega)
        rw [beq_self_eq_true] at h1
        exact h1
      have hb0 : Below V3.heap.size V3 V3 := Below.refl _ _
      clear hB hL cT cR hb8 hb9 hgc hC hB3
      replace hL3 := Lib.hid hL3
      replace cTc := Lib.hid cTc
      replace cTb := Lib.hid cTb
      replace cAc := Lib.hid cAc
      replace cAb := Lib.hid cAb
      replace cS := Lib.hid cS
      replace hb0 := Lib.hid hb0
      replace hmc := Lib.hid hmc
      go_wp2_with (first
        | (go_at_call 11; first | ((with_reducible refine (cTc.out _ hb0.out).mono ?_); rintro e V4 ⟨rfl, hb4⟩; replace hb4 := Lib.hid hb4) | ((with_reducible refine (cTb.out _ hb4.out).mono ?_); rintro e V5 ⟨rfl, hb5⟩; replace hb5 := Lib.hid (hb4.out.trans (hb5.mono hb4.out.size))))
        | (go_at_call 14; first | ((with_reducible refine (cAc.out _ hb5.out).mono ?_); rintro e V6 ⟨u, rfl, hu⟩; have hb6 := Lib.hid (hb5.out.trans (hu.bl.mono hb5.out.size)); replace hu := Lib.hid hu) | ((with_reducible refine (cAb.out _ hb6.out).mono ?_); rintro e V7 ⟨v, rfl, hv⟩; have hb7 := Lib.hid (hb6.out.trans (hv.bl.mono hb6.out.size)); replace hv := Lib.hid hv))
        | (go_at_call 13; (with_reducible refine (cS.out _ _ _ _ hu.out _ hv.out).mono ?_); rintro e V8 ⟨rfl, n, rfl⟩))
      go_ret
      have hf := hL3.out.trans (hb7.out.mono hL3.out.size)
      exact ⟨rfl, hf.os, hf.tape, hf.output, hf.size, hf.block⟩
end Go.Proofs.YtflbggehgjllcaaDoor
