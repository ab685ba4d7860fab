/- Opened again, a journal is the same: the law's walk. -/
import Derived.Test.YtidofjjghbhaaaaLA
namespace Go.Proofs.Ytidofjjghbhaaaa
open Go.RowKit
set_option linter.unusedVariables false

/-- one text behind one's own texts -/
theorem appS_run2 (w : World) (B : Nat) (v : Value) (l : List (List UInt8)) (hown : Own B w v l) (hB : B ≤ w.heap.size) (s : ByteArray) (hn : l.length + 1 ≤ 33554432) :
    ∃ v' w', (Builtin.append_ #[52, 52] 52 #[v, .slice (some ⟨w.heap.size, 0, none⟩) 1 1]).run Try.prog (w.alloc (.cells #[.string s] 9)) = .ok v' w' ∧ Own B w' v' (l ++ [bl s]) ∧ (w.alloc (.cells #[.string s] 9)).grownBy w' v.ownBlock ∧ (∀ g, v'.ownBlock = some g → v.ownBlock = some g ∨ w.heap.size ≤ g) := by
  have hO : Own B (w.alloc (.cells #[.string s] 9)) v l := hown.alloc _
  obtain ⟨v', w', hr, h2, h3⟩ := appS_run _ B v l hO (by simp; omega) (some ⟨w.heap.size, 0, none⟩) 1 1 [bl s] (srow_one w s) (by omega)
  have hnc : (w.alloc (.cells #[.string s] 9)).cell? ⟨w.heap.size, 0, none⟩ = some (.string s) := by
    rw [cell_of_row _ w.heap.size 0 _ 9 (0, 0) (heap_alloc_new w _)]; rfl
  refine ⟨v', w', hr, h2, h3, fun g hg => ?_⟩
  rcases appS_where _ B v l hO _ 1 s hnc rfl (by omega) v' w' hr g hg with h1 | h1
  · exact .inl h1
  · exact .inr (by simp at h1; omega)
theorem wpList_appS2 {ops : Array Oper} {rest : List Oper} {o : Oper} {a : Act} {w : World} {Q : Exit → Act → World → Prop} (hgd : o.guard = none) (sl x : Operand) (hty : o.type = 52)
    (ho : o.op = .call { callee := .builtin .append, args := #[sl, x], argTypes := #[52, 52] })
    (B : Nat) (v : Value) (l : List (List UInt8)) (hs : a.eval sl = v) (hown : Own B w v l) (hB : B ≤ w.heap.size) (s : ByteArray) (hx : a.eval x = .slice (some ⟨w.heap.size, 0, none⟩) 1 1) (hn : l.length + 1 ≤ 33554432)
    (h : ∀ v' w', Own B w' v' (l ++ [bl s]) → (w.alloc (.cells #[.string s] 9)).grownBy w' v.ownBlock → (∀ g, v'.ownBlock = some g → v.ownBlock = some g ∨ w.heap.size ≤ g) → wpList Try.prog ops Q rest (a.put o.dst v') w') : wpList Try.prog ops Q (o :: rest) a (w.alloc (.cells #[.string s] 9)) := by
  refine wpList_plain hgd fun K hK => ?_
  obtain ⟨v', w', hr, h2, h3, h4⟩ := appS_run2 w B v l hown hB s hn
  unfold Oper.wp execOp
  simp only [ho, hty, resolve, invoke, builtin, Sem.run_bind, Sem.run_pure, Result.andThen_ok, List.map_toArray, List.map_cons, List.map_nil, hs, hx, hr]
  exact hK _ _ (h v' w' h2 h3 h4)

/-- a row of texts of one's own, beside a journal -/
structure Rw (B : Nat) (F : Nat → Prop) (w : World) (v : Value) (l : List (List UInt8)) : Prop where
  own : Own B w v l
  out : ∀ g, v.ownBlock = some g → ¬ F g
theorem Rw.nil (B : Nat) (F : Nat → Prop) (w : World) : Rw B F w (.slice none 0 0) [] := ⟨Own.nil _ _, fun g h => by simp [Value.ownBlock] at h⟩
theorem Rw.step {B : Nat} {F F' : Nat → Prop} {w w' : World} {v : Value} {l : List (List UInt8)} (h : Rw B F w v l) (hs : Step F F' w w') : Rw B F' w' v l :=
  ⟨h.own.block fun g hg => hs.kp.block g (h.own.lt g hg).2 (h.out g hg), fun g hg => hs.not (h.own.lt g hg).2 (h.out g hg)⟩
theorem Rw.later {B : Nat} {F : Nat → Prop} {w w' : World} {v : Value} {l : List (List UInt8)} (h : Rw B F w v l) (hb : Below w.heap.size w w') : Rw B F w' v l := h.step (Step.of_below hb)
theorem GJ.apart {m0 : DM} {W w w' : World} {F Q : Nat → Prop} {jb d : Nat} {j : JM} {all : List (List UInt8)} {n : Nat} (h : GJ m0 W w F jb d j all n) (hK : Kp Q w w') (hQ : ∀ i, i < w.heap.size → Q i → ¬ F i ∧ W.heap.size ≤ i) : GJ m0 W w' F jb d j all n := by
  obtain ⟨m, h1, h2⟩ := h
  exact ⟨m, ⟨h1.jn.kept hK fun i hi hf hq => (hQ i hi hq).1 hf, fun i hi => ⟨(h1.fp i hi).1, Nat.lt_of_lt_of_le (h1.fp i hi).2 hK.size⟩, h1.bel.trans ((hK.mono (G := fun i => W.heap.size ≤ i) fun i hi hq => (hQ i hi hq).2).below h1.bel.size fun j hj hF => by omega)⟩, h2⟩

/-- what the law's loop holds -/
structure OnSt (W wr : World) (d jb : Nat) (ops : Nat → JOp) (k : Nat) (want : Value) : Prop where
  ex : ∃ F j all n, GJ (DM.new 1048576) W wr F jb d j all n ∧ Rw W.heap.size F wr want j.recs ∧ n ≤ 16 * k + jsz ops k ∧ all.length ≤ k

set_option maxHeartbeats 8000000 in
set_option maxRecDepth 100000 in
theorem jOnce_any (p : Option Addr) (len cap : Nat) (ops : Nat → JOp) (tx : ByteArray) (w : World) (hrow : JopRow w p len ops) (htx : tx.size ≤ 140737488351232) :
    Calls Try.prog 5 #[.slice p len cap, .string tx] w fun e w' => e = .returned (.bool true) ∧ Below w.heap.size w w' := by
  have hlen := hrow.2.1
  have hA := fun w => awake_any w
  replace hA := Lib.hid hA
  replace hrow := Lib.hid hrow
  go_enter Try.func5, Try.ntmps5
  go_upto_region 3 with (first | (go_at_call 7; refine (hA.out _).mono ?_; rintro e w1 ⟨rfl, hB1⟩))
  have hrow1 := hrow.out.kept hB1
  have cZ := jsize_any p len cap ops w1 hrow1
  replace cZ := Lib.hid cZ
  replace hrow1 := Lib.hid hrow1
  replace hB1 := Lib.hid hB1
  by_cases h30 : 30 < len
  · have h30z : (30 : Int) < (len : Int) := by omega
    go_wp2_with fail
    go_ret
    exact ⟨rfl, hB1.out⟩
  have h30z : ¬ (30 : Int) < (len : Int) := by omega
  go_wp2_with fail
  refine cZ.out.mono ?_
  rintro e w' ⟨⟨z, rfl, hz1, hz2⟩, rfl⟩
  have hzw := IntWalk.i64_in ((z : Int) + (tx.size : Int)) (by omega)
  by_cases h4 : 4000 < z + tx.size
  · have h4z : (4000 : Int) < (z : Int) + (tx.size : Int) := by omega
    go_wp2_with fail
    go_ret
    exact ⟨rfl, hB1.out⟩
  have h4z : ¬ (4000 : Int) < (z : Int) + (tx.size : Int) := by omega
  have hsz : jsz ops len + tx.size ≤ 4000 := by have := hz2 (by omega); omega
  clear hz2 hz1
  replace hsz := Lib.hid hsz
  have cN := gd_new 1048576 w1 (by omega)
  replace cN := Lib.hid cN
  go_wp2_with fail
  refine cN.out.mono ?_
  rintro e w2 ⟨d, D, rfl, g1⟩
  have cO := gj_open g1
  replace cO := Lib.hid cO
  clear cN g1
  go_wp2_with fail
  refine cO.out.mono ?_
  rintro e w3 ⟨jb, F0, rfl, g2, _⟩
  replace g2 := Lib.hid g2
  clear cO
  go_wp2_with fail
  have hB12 := hB1.out
  go_loopw [9, 50] (fun want i wr => ∃ k : Nat, k ≤ len ∧ i = .int .i64 k ∧ Hid (OnSt w1 wr d jb ops k want)) (fun _ i _ => len - (intOf i).toNat)
  case atStart => exact ⟨0, by omega, rfl, Lib.hid ⟨_, _, _, _, g2.out, Rw.nil _ _ _, by simp, by simp⟩⟩
  case round =>
    obtain ⟨k, hk, rfl, hR⟩ := hrel
    obtain ⟨F, j, all, n, hG, hW, hn, hal⟩ := hR.out.ex
    by_cases hkl : k < len
    · have kz : (k : Int) < (len : Int) := by omega
      obtain ⟨b, off, rfl, hblt, hcell⟩ := hrow1.out.2.2.resolve_left (by omega)
      have hcw : ∀ j, j < 7 → wr.cell? ⟨b, off + k * 7 + j, none⟩ = (ops k).arr[j]? := fun j hj => (hG.bel.cell (p := ⟨b, off + k * 7 + j, none⟩) hblt).trans (hcell k hkl j hj)
      have c0 : wr.cell? ⟨b, off + k * 7, none⟩ = some (.int .i64 (ops k).Do) := hcw 0 (by omega)
      have c1 : wr.cell? ⟨b, off + k * 7 + 1, none⟩ = some (.int .i64 (ops k).N) := hcw 1 (by omega)
      have c2 : wr.cell? ⟨b, off + k * 7 + 2, none⟩ = some (.string (ops k).Bs) := hcw 2 (by omega)
      have c3 : wr.cell? ⟨b, off + k * 7 + 3, none⟩ = some (.int .i64 ((ops k).K 0)) := hcw 3 (by omega)
      have c4 : wr.cell? ⟨b, off + k * 7 + 4, none⟩ = some (.int .i64 ((ops k).K 1)) := hcw 4 (by omega)
      have c5 : wr.cell? ⟨b, off + k * 7 + 5, none⟩ = some (.int .i64 ((ops k).K 2)) := hcw 5 (by omega)
      have c6 : wr.cell? ⟨b, off + k * 7 + 6, none⟩ = some (.int .i64 ((ops k).K 3)) := hcw 6 (by omega)
      have hjk : jsz ops (k + 1) = jsz ops k + (ops k).Bs.size + 1 := rfl
      have hmono := jsz_mono ops (k + 1) (len - (k + 1))
      rw [show k + 1 + (len - (k + 1)) = len by omega] at hmono
      have hsz' := hsz.out
      clear hcw hcell
      generalize hopk : ops k = x at *
      generalize hJ1 : jsz ops (k + 1) = J1 at *
      generalize jsz ops k = J at *
      replace hJ1 := Lib.hid hJ1
      have hB0 : Below wr.heap.size wr (wr.alloc (.cells x.arr 44)) := (Below.refl _ _).alloc (Nat.le_refl _) _
      have hG0 := hG.later hB0
      have hW0 := hW.later hB0
      have hgF : ¬ F wr.heap.size := fun e => by have := (hG.fp _ e).2; omega
      have hxb : (wr.alloc (.cells x.arr 44)).heap[wr.heap.size]? = some (.cells x.arr 44 (0, 0)) := heap_alloc_new wr _
      unfold JOp.arr at hB0 hG0 hW0 hxb
      generalize hv : wr.alloc (.cells #[.int .i64 x.Do, .int .i64 x.N, .string x.Bs, .int .i64 (x.K 0), .int .i64 (x.K 1), .int .i64 (x.K 2), .int .i64 (x.K 3)] 44) = v at *
      generalize hg : wr.heap.size = g at *
      have d0 : v.cell? ⟨g, 0, none⟩ = some (.int .i64 x.Do) := obj_cell hxb rfl
      have d2 : v.cell? ⟨g, 2, none⟩ = some (.string x.Bs) := obj_cell hxb rfl
      replace hv := Lib.hid hv
      replace hg := Lib.hid hg
      have hgl := obj_lt hxb
      replace hxb := Lib.hid hxb
      replace hG0 := Lib.hid hG0
      replace hW0 := Lib.hid hW0
      replace hB0 := Lib.hid hB0
      replace hopk := Lib.hid hopk
      clear hG hW hR
      go_upto_region 13 with (fail)
      rw [hg.out]
      change Code.wp _ _ _ _ (wr.alloc (.cells #[.int .i64 x.Do, .int .i64 x.N, .string x.Bs, .int .i64 (x.K 0), .int .i64 (x.K 1), .int .i64 (x.K 2), .int .i64 (x.K 3)] 44))
      rw [hv.out]
      by_cases e1 : x.Do = 1
      · have hd1 : (x.Do == 1) = true := by simp [e1]
        have cS := gj_snap hG0.out x.Bs (by omega) (by show 0 + n + 16 + x.Bs.size ≤ 1048576; omega) (by omega)
        replace cS := Lib.hid cS
        replace e1 := Lib.hid e1
        go_wp2_with (first | (go_at_call 23; (with_reducible refine cS.out.mono ?_); rintro e v2 ⟨F2, rfl, hG2, hS2⟩; replace hG2 := Lib.hid hG2; replace hS2 := Lib.hid hS2))
        go_roundw
        case rel => exact ⟨k + 1, by omega, by go_num, Lib.hid ⟨F2, _, _, _, hG2.out, Rw.nil _ _ _, by rw [hJ1.out]; omega, by omega⟩⟩
        case measure => simp [intOf]; omega
      · have hd1 : (x.Do == 1) = false := by simpa using e1
        have cA := gj_app hG0.out x.Bs (by omega) (by show 0 + n + 16 + x.Bs.size ≤ 1048576; omega) (by omega)
        replace cA := Lib.hid cA
        replace e1 := Lib.hid e1
        go_upto_region 19 with (first | (go_at_call 21; (with_reducible refine cA.out.mono ?_); rintro e v2 ⟨F2, rfl, hG2, hS2⟩; have k2 := hS2.kp.cell d2 hgF; replace hG2 := Lib.hid hG2; replace hS2 := Lib.hid hS2))
        have hW2 := hW0.out.step hS2.out
        have hrl : j.recs.length ≤ k := by have h1 := hG0.out.recs.2; unfold JM.last at h1; omega
        have hBv := hG2.out.bel.size
        go_wp2_with (at_builtin; refine wpList_appS2 rfl _ _ rfl rfl w1.heap.size _ j.recs rfl hW2.own hBv x.Bs rfl (by omega) ?_)
        intro v5 w5 hO5 hGr5 hwh5
        have hK5 : Kp (fun i => u9.ownBlock = some i) v2 w5 := ((Kp.refl _ v2).alloc _).grown hGr5 fun q hq => .inl hq
        have hG5 := hG2.out.apart hK5 (fun i hi hq => ⟨hW2.out i hq, (hW2.own.lt i hq).1⟩)
        have hR5 : Rw w1.heap.size F2 w5 v5 (j.recs ++ [bl x.Bs]) := ⟨hO5, fun q hq hF => by
          rcases hwh5 q hq with h1 | h1
          · exact hW2.out q h1 hF
          · have := (hG2.out.fp q hF).2; omega⟩
        have hN : Hid (OnSt w1 w5 d jb ops (k + 1) v5) := Lib.hid ⟨F2, _, _, _, hG5, hR5, by rw [hJ1.out]; omega, by simp; omega⟩
        clear hO5 hGr5 hwh5 hK5 hG5 hR5 hW2
        go_wp2_with fail
        go_roundw
        case rel => exact ⟨k + 1, by omega, by go_num, hN⟩
        case measure => simp [intOf]; omega
    · obtain rfl : k = len := by omega
      have kz : ¬ (k : Int) < (k : Int) := by omega
      have hsz' := hsz.out
      obtain ⟨pj, cj, D, hGD, hH, hsub⟩ := hG.split
      have hWD : Rw w1.heap.size D wr u9 j.recs := ⟨hW.own, fun q hq hD => hW.out q hq (hsub q hD)⟩
      have hlast := hG.recs.2
      have hrl : j.recs.length ≤ k := by unfold JM.last at hlast; omega
      have cO := gj_open hGD
      replace cO := Lib.hid cO
      replace hWD := Lib.hid hWD
      replace hH := Lib.hid hH
      clear hG hW hR hsub hGD
      go_upto_region 22 with (first | (go_at_call 15; (with_reducible refine cO.out.mono ?_); rintro e v2 ⟨kb, F2, rfl, hG2, hS2⟩; have hW2 := hWD.out.step hS2; have hH2 := hH.out.step hS2; replace hG2 := Lib.hid hG2; replace hS2 := Lib.hid hS2; replace hW2 := Lib.hid hW2; replace hH2 := Lib.hid hH2))
      obtain ⟨pw, cw, rfl, hrw⟩ := hW2.out.own.row
      have cR := gj_records hG2.out (by omega)
      have cL := fun w' (hb : Below v2.heap.size v2 w') => gj_last (hG2.out.later hb) (by omega)
      have cLj := fun w' (hb : Below v2.heap.size v2 w') => lastO_any (hH2.out.later hb).jo (by omega)
      rw [hlast] at cLj
      have cS := fun (p1 : Option Addr) (cap1 : Nat) (w' : World) (h1 : SRow w' p1 j.recs.length j.recs) (hb : Below v2.heap.size v2 w') => same_any p1 pw j.recs.length j.recs.length cap1 cw j.recs j.recs w' h1 (hrw.kept hb) (by omega)
      rw [decide_eq_true rfl] at cS
      replace cR := Lib.hid cR
      replace cL := Lib.hid cL
      replace cLj := Lib.hid cLj
      replace cS := Lib.hid cS
      replace hrw := Lib.hid hrw
      clear cO
      have hb0 : Hid (Below v2.heap.size v2 v2) := Lib.hid (Below.refl _ _)
      go_upto_region 24 with (first
        | (go_at_call 28; (with_reducible refine cR.out.mono ?_); rintro e v3 ⟨⟨p3, cap3, rfl, hs3⟩, hb3⟩; replace hs3 := Lib.hid hs3; replace hb3 := Lib.hid hb3)
        | (go_at_call 27; (with_reducible refine (cS.out _ _ _ hs3.out hb3.out).mono ?_); rintro e v4 ⟨rfl, n4, hv4⟩; have hb4 : Below v2.heap.size v2 v4 := (by rw [hv4]; exact below_dn hb3.out n4); clear hv4; replace hb4 := Lib.hid hb4)
        | (go_at_call 26; first
            | ((with_reducible refine (cL.out _ hb4.out).mono ?_); rintro e v5 ⟨rfl, n5, hv5⟩; have hb5 : Below v2.heap.size v2 v5 := (by rw [hv5]; exact below_dn hb4.out n5); clear hv5; replace hb5 := Lib.hid hb5)
            | ((with_reducible refine (cLj.out _ hb5.out).mono ?_); rintro e v6 ⟨rfl, n6, hv6⟩; have hb6 : Below v2.heap.size v2 v6 := (by rw [hv6]; exact below_dn hb5.out n6); clear hv6; replace hb6 := Lib.hid hb6)))
      have hG6 := hG2.out.later hb6.out
      have cL6 := gj_last hG6 (by omega)
      have cS6 := fun w' (hb : Below v6.heap.size v6 w') => gj_snap (hG6.later hb) tx (by omega) (by show 0 + n + 16 + tx.size ≤ 1048576; omega) (by omega)
      replace hG6 := Lib.hid hG6
      replace cL6 := Lib.hid cL6
      replace cS6 := Lib.hid cS6
      clear cR cL cLj cS hb0 hb3 hb4 hb5
      go_wp2_with fail
      refine cL6.out.mono ?_
      rintro e v7 ⟨rfl, n7, hv7⟩
      have hb7 : Below v6.heap.size v6 v7 := by rw [hv7]; exact below_dn (Below.refl _ _) n7
      have cS7 := cS6.out v7 hb7
      clear hv7 cS6 cL6
      replace cS7 := Lib.hid cS7
      replace hb7 := Lib.hid hb7
      go_wp2_with fail
      refine cS7.out.mono ?_
      rintro e v8 ⟨F8, rfl, hG8, _⟩
      have cO8 := gj_open hG8.gd
      clear cS7 hG8
      replace cO8 := Lib.hid cO8
      go_wp2_with fail
      refine cO8.out.mono ?_
      rintro e v9 ⟨mb, F9, rfl, hG9, _⟩
      have cT9 := gj_text hG9
      simp only at cT9
      rw [sv_bl] at cT9
      have cL9 := fun w' (hb : Below v9.heap.size v9 w') => gj_last (hG9.later hb) (by omega)
      have cR9 := fun w' (hb : Below v9.heap.size v9 w') => gj_records (hG9.later hb) (by omega)
      simp only [List.length_nil] at cR9
      clear cO8
      replace cT9 := Lib.hid cT9
      replace cL9 := Lib.hid cL9
      replace cR9 := Lib.hid cR9
      have hz9 : (((all.length : Nat) : Int) == ((all.length : Nat) : Int)) = true := by simp
      replace hG9 := Lib.hid hG9
      go_wp2_with (first
        | (go_at_call 25; (with_reducible refine cT9.out.mono ?_); rintro e v10 ⟨rfl, n10, hv10⟩; have hb10 : Below v9.heap.size v9 v10 := (by rw [hv10]; exact below_dn (Below.refl _ _) n10); clear hv10; replace hb10 := Lib.hid hb10)
        | (go_at_call 26; (with_reducible refine (cL9.out _ hb10.out).mono ?_); rintro e v11 ⟨rfl, n11, hv11⟩; have hb11 : Below v9.heap.size v9 v11 := (by rw [hv11]; exact below_dn hb10.out n11); clear hv11; replace hb11 := Lib.hid hb11)
        | (go_at_call 28; (with_reducible refine (cR9.out _ hb11.out).mono ?_); rintro e v12 ⟨⟨p12, cap12, rfl, _⟩, hb12⟩; replace hb12 := Lib.hid hb12))
      go_ret
      exact ⟨rfl, hB1.out.trans (((hG9.out.later hb11.out).bel.trans (hb12.out.mono (hG9.out.later hb11.out).bel.size)).mono hB1.out.size)⟩
end Go.Proofs.Ytidofjjghbhaaaa
