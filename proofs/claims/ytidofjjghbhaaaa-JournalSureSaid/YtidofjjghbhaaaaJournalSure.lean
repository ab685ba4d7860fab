/- Behind a crash all records are told whose append went through: the law's walk. -/
import Derived.Test.YtidofjjghbhaaaaPD
import Derived.Deep.CutBlock
import Derived.Deep.DeepCutAuto
namespace Go.Proofs.Ytidofjjghbhaaaa
open Go.RowKit Go.Maps
set_option linter.unusedVariables false

/-- a piece of a row of texts -/
theorem SRow.piece {w : World} {b off len n m : Nat} {ls : List (List UInt8)} (h : SRow w (some ⟨b, off, none⟩) len ls) (hn : n ≤ m) (hm : m ≤ len) : SRow w (some ⟨b, off + n, none⟩) (m - n) ((ls.take m).drop n) := by
  obtain ⟨h1, h2⟩ := h
  refine ⟨by rw [List.length_drop, List.length_take]; omega, ?_⟩
  by_cases e : m - n = 0
  · exact .inl e
  rcases h2 with h2 | ⟨b', off', hb, hlt, hc⟩
  · omega
  injection hb with hb
  injection hb with e1 e2
  subst e1; subst e2
  refine .inr ⟨b, off + n, rfl, hlt, fun i hi => ?_⟩
  rw [show off + n + i = off + (n + i) by omega, hc (n + i) (by omega), List.getD_eq_getElem?_getD, List.getD_eq_getElem?_getD, List.getElem?_drop, List.getElem?_take, if_pos (by omega)]
/-- a row of texts of one's own: nil, or cells -/
theorem Own.two {B : Nat} {w : World} {v : Value} {l : List (List UInt8)} (h : Own B w v l) : (v = .slice none 0 0 ∧ l = []) ∨ ∃ g c, v = .slice (some ⟨g, 0, none⟩) l.length c ∧ l.length ≤ c ∧ SRow w (some ⟨g, 0, none⟩) l.length l := by
  obtain ⟨p, cap, e, hS⟩ := h.row
  obtain ⟨_, h⟩ := h
  rcases h with ⟨rfl, h0⟩ | ⟨g, c, cur, rfl, hg, hh, hn, hm, _⟩
  · exact .inl ⟨rfl, List.eq_nil_of_length_eq_zero h0⟩
  · injection e with e1 e2 e3
    subst e1
    exact .inr ⟨g, c, rfl, by omega, hS⟩
/-- a literal of one text -/
theorem own_lit (B : Nat) (w : World) (hB : B ≤ w.heap.size) (s : ByteArray) : Own B (w.alloc (.cells #[.string s] 9)) (.slice (some ⟨w.heap.size, 0, none⟩) 1 1) [bl s] :=
  ⟨rfl, .inr ⟨w.heap.size, 1, #[.string s], rfl, hB, heap_alloc_new w _, Nat.le_refl _, by unfold maxLen; omega, rfl, by rw [List.map_cons, List.map_nil, sv_bl]; rfl⟩⟩
theorem Rw.kept {B : Nat} {F Q : Nat → Prop} {w w' : World} {v : Value} {l : List (List UInt8)} (h : Rw B F w v l) (hK : Kp Q w w') (hQ : ∀ g, v.ownBlock = some g → ¬ Q g) : Rw B F w' v l :=
  ⟨h.own.block fun g hg => hK.block g (h.own.lt g hg).2 (hQ g hg), h.out⟩
/-- texts that were given, by numbers -/
def gT (G : Nat → List (List UInt8)) : Nat → List UInt8 → Prop := fun i t => t ∈ G i
theorem gT_upd (G : Nat → List (List UInt8)) (k : Nat) (b : List UInt8) : ∀ i t, gT G i t → gT (upd G k (G k ++ [b])) i t := by
  intro i t h
  unfold gT at *
  by_cases e : i = k
  · subst e; rw [upd_same]; exact List.mem_append_left _ h
  · rw [upd_other _ _ e]; exact h
theorem gT_new (G : Nat → List (List UInt8)) (k : Nat) (b : List UInt8) : gT (upd G k (G k ++ [b])) k b := by
  unfold gT
  rw [upd_same]
  simp
theorem store_run (w : World) (mb n : Nat) (hn : n < 1000000) (D0 : DataW Value) (hown : w.ownsMap Try.prog 3 vR mb n D0) (k : Nat) (hk : k ≤ 9223372036854775807) (v' : Value) :
    ∃ w2, (Instr.mapUpdate 53 (.map (some mb)) (.int .i64 (k : Int)) v').run Try.prog w = .ok () w2 ∧ (∀ D, w.ownsMap Try.prog 3 vR mb n D → w2.ownsMap Try.prog 3 vR mb (n + 1) (D.put (.int .i64 (k : Int)) (.held v'))) ∧ w.grownBy w2 (some mb) := by
  obtain ⟨w2, hrun, r1, r2⟩ := hown.update keyInt Try.underlying53 (by unfold maxLen; omega) (key_nat k hk) (val := v') (d := .held v') (ps := []) rfl
  refine ⟨w2, hrun, fun D hD => ?_, r2⟩
  obtain ⟨w3, hrun3, r3, _⟩ := hD.update keyInt Try.underlying53 (by unfold maxLen; omega) (key_nat k hk) (val := v') (d := .held v') (ps := []) rfl
  rw [hrun] at hrun3
  injection hrun3 with _ e
  subst e
  exact r3
theorem hasAt_none : HasAt (.map []) (fun _ => nilS) := ⟨Maps.isMap_empty, fun k => rfl⟩

/-- what the law's loop holds -/
structure SuSt (W wr : World) (d jb mb k : Nat) (v : Value) (n : Nat) : Prop where
  ex : ∃ F j all V G mc, SJ W wr F jb d j all (gT G) ∧ Rw W.heap.size F wr v all ∧ TxM W.heap.size F v wr mb mc V G ∧ all.length ≤ k ∧ n = all.length ∧ mc ≤ k + 1 ∧ ∀ i, (G i).length ≤ k + 1
/-- what is there behind it -/
structure SuEnd (W wc : World) (d mb : Nat) (v : Value) (n : Nat) : Prop where
  ex : ∃ F all all' V G mc, LD W wc F d all' (gT G) n ∧ Rw W.heap.size F wc v all ∧ TxM W.heap.size F v wc mb mc V G ∧ all' <+: all ∧ all.length ≤ 31 ∧ ∀ i, (G i).length ≤ 40

set_option maxHeartbeats 8000000 in
set_option maxRecDepth 100000 in
theorem jSure_any (p : Option Addr) (len cap : Nat) (ops : Nat → JOp) (f0 : Int) (K : Nat → Int) (w : World) (hrow : JopRow w p len ops) (hf0 : -9223372036854775808 ≤ f0 ∧ f0 ≤ 9223372036854775807) (hK : ∀ i, K i ≤ 9223372036854775807) :
    Calls Try.prog 4 #[.slice p len cap, .int .i64 f0, .agg #[.int .i64 (K 0), .int .i64 (K 1), .int .i64 (K 2), .int .i64 (K 3)]] w fun e w' => e = .returned (.bool true) ∧ Below w.heap.size w w' := by
  have hlen := hrow.2.1
  have hA := fun w => awake_any w
  replace hA := Lib.hid hA
  have hW0 : Below w.heap.size w (w.alloc (.cells #[.int .i64 (K 0), .int .i64 (K 1), .int .i64 (K 2), .int .i64 (K 3)] 42)) := (Below.refl _ _).alloc (Nat.le_refl _) _
  have hbx0 : (w.alloc (.cells #[.int .i64 (K 0), .int .i64 (K 1), .int .i64 (K 2), .int .i64 (K 3)] 42)).heap[w.heap.size]? = some (.cells #[.int .i64 (K 0), .int .i64 (K 1), .int .i64 (K 2), .int .i64 (K 3)] 42 (0, 0)) := heap_alloc_new w _
  have hrowb := hrow.kept hW0
  generalize hwa : w.alloc (.cells #[.int .i64 (K 0), .int .i64 (K 1), .int .i64 (K 2), .int .i64 (K 3)] 42) = wa at *
  generalize hB : w.heap.size = B at *
  replace hwa := Lib.hid hwa
  replace hB := Lib.hid hB
  replace hrow := Lib.hid hrow
  replace hrowb := Lib.hid hrowb
  replace hbx0 := Lib.hid hbx0
  replace hW0 := Lib.hid hW0
  have hmm := @run_makeMap Try.prog
  go_enter Try.func4, Try.ntmps4
  go_upto_region 1 with (fail)
  rw [hB.out]
  change Code.wp _ _ _ _ (w.alloc (.cells #[.int .i64 (K 0), .int .i64 (K 1), .int .i64 (K 2), .int .i64 (K 3)] 42))
  rw [hwa.out]
  go_upto_region 3 with (first | (go_at_call 7; refine (hA.out _).mono ?_; rintro e w1 ⟨rfl, hB1⟩))
  have hrow1 := hrowb.out.kept hB1
  have hbx1 := (hB1.block B (obj_lt hbx0.out)).trans hbx0.out
  have hW1 : Below B w w1 := hW0.out.trans (hB1.mono (by have := obj_lt hbx0.out; omega))
  have cZ := jsize_any p len cap ops w1 hrow1
  clear hwa hrow hrowb hbx0 hW0 hB1
  have hbl := obj_lt hbx1
  replace cZ := Lib.hid cZ
  replace hrow1 := Lib.hid hrow1
  replace hbx1 := Lib.hid hbx1
  replace hW1 := Lib.hid hW1
  by_cases h30 : 30 < len
  · have h30z : (30 : Int) < (len : Int) := by omega
    go_wp2_with fail
    go_ret
    exact ⟨rfl, hW1.out⟩
  have h30z : ¬ (30 : Int) < (len : Int) := by omega
  go_wp2_with fail
  refine cZ.out.mono ?_
  rintro e w' ⟨⟨z, rfl, hz1, hz2⟩, rfl⟩
  by_cases h4 : 4000 < z
  · have h4z : (4000 : Int) < (z : Int) := by omega
    go_wp2_with fail
    go_ret
    exact ⟨rfl, hW1.out⟩
  have h4z : ¬ (4000 : Int) < (z : Int) := by omega
  have hsz : jsz ops len ≤ 4000 := by have := hz2 (by omega); omega
  clear hz2 hz1
  replace hsz := Lib.hid hsz
  have cN := ad_new 1048576 w1 (by omega)
  replace cN := Lib.hid cN
  go_wp2_with fail
  refine cN.out.mono ?_
  rintro e w2 ⟨d, D, rfl, g1⟩
  have cO := sj_new 1048576 (gT (upd (fun _ => []) 0 [[]])) (by unfold gT; rw [upd_same]; simp) (by omega) g1
  replace cO := Lib.hid cO
  clear cN g1
  go_wp2_with fail
  refine cO.out.mono ?_
  rintro e w3 ⟨jb, F0, rfl, g2, _⟩
  have cF := sj_fuse f0 hf0.2 g2
  replace cF := Lib.hid cF
  clear cO g2
  go_wp2_with fail
  refine cF.out.mono ?_
  rintro e w4 ⟨F1, rfl, g3, _⟩
  clear cF
  have hTm : TxM w1.heap.size F1 (.slice none 0 0) (w4.alloc (.map #[] 0)) w4.heap.size 0 (fun _ => nilS) (fun _ => []) := ⟨⟨_, World.ownsMap_made w4 Try.prog 3 vR, hasAt_none⟩, fun k => Rw.nil _ _ _, fun k i h g e => by simp [nilS, Value.ownBlock] at e, fun k g e => by simp [nilS, Value.ownBlock] at e, fun e => by have := (g3.fp _ e).2; omega, g3.bel.size, fun k => by simp [nilS, Value.ownBlock], by simp [Value.ownBlock]⟩
  obtain ⟨D0, hD0, hat0⟩ := hTm.own
  have hb4 : Below w4.heap.size w4 (w4.alloc (.map #[] 0)) := (Below.refl _ _).alloc (Nat.le_refl _) _
  have g4 := g3.later hb4
  have hsz4 : (w4.alloc (.map #[] 0)).heap.size = w4.heap.size + 1 := by simp
  generalize hmb : w4.heap.size = mb at *
  generalize hwm : w4.alloc (.map #[] 0) = wm at *
  have hDw : (wm.alloc (.cells #[.string ⟨#[]⟩] 9)).ownsMap Try.prog 3 vR mb 0 D0 := hD0.alloc _
  replace hTm := Lib.hid hTm
  replace hD0 := Lib.hid hD0
  replace hat0 := Lib.hid hat0
  replace g4 := Lib.hid g4
  replace hmb := Lib.hid hmb
  replace hwm := Lib.hid hwm
  replace hDw := Lib.hid hDw
  clear g3 hb4
  obtain ⟨w5, hrun5, hm5, hg5⟩ := store_run _ mb 0 (by omega) D0 hDw.out 0 (by omega) (.slice (some ⟨mb + 1, 0, none⟩) 1 1)
  have hO5 := own_lit w1.heap.size wm (by have := g4.out.bel.size; omega) ⟨#[]⟩
  rw [hsz4] at hO5
  have ha5 : Kp (fun _ => False) wm (wm.alloc (.cells #[.string ⟨#[]⟩] 9)) := (Kp.refl _ _).alloc _
  have hk5 : Kp (fun i => mb = i) (wm.alloc (.cells #[.string ⟨#[]⟩] 9)) w5 := (Kp.refl _ _).grown hg5 fun q hq => .inl (by injection hq)
  have hT5 := hTm.out.put (w2 := w5) (k := 0) (fun i hi => (g4.out.fp i hi).2) (fun g e => by simp [Value.ownBlock] at e) (by omega) (ha5.mono fun _ _ e => e.elim) hO5 (fun g e => .inr (by simp [Value.ownBlock] at e; omega)) hm5 hk5
  have g5 := (g4.out.apart (ha5.mono (G := fun _ => False) fun _ _ e => e) (fun i _ e => e.elim)).apart hk5 (fun i hi e => ⟨fun hF => hTm.out.mF (by subst e; exact hF), by subst e; exact hTm.out.mB⟩)
  have hrun5' : (Instr.mapUpdate 53 (.map (some mb)) (.int .i64 0) (.slice (some ⟨mb + 1, 0, none⟩) 1 1)).run Try.prog (wm.alloc (.cells #[.string ⟨#[]⟩] 9)) = .ok () w5 := hrun5
  have e0 : bl (⟨#[]⟩ : ByteArray) = [] := rfl
  rw [e0] at hT5
  generalize (upd (fun _ => nilS) 0 (.slice (some ⟨mb + 1, 0, none⟩) 1 1)) = V0 at *
  have hN0 : Hid (SuSt w1 w5 d jb mb 0 (.slice none 0 0) 0) := Lib.hid ⟨F1, _, [], V0, _, _, g5, Rw.nil _ _ _, hT5, by simp, rfl, by omega, fun i => by by_cases e : i = 0; subst e; rw [upd_same]; simp; rw [upd_other _ _ e]; simp⟩
  clear hT5 g5 hk5 ha5 hO5 hm5 hg5 hrun5 e0 hat0 hTm g4 hD0
  replace hrun5' := Lib.hid hrun5'
  go_upto_region 14 with (fail)
  go_wp2_with (fail)
  rw [hmb.out, hwm.out, hrun5'.out]
  clear hDw hrun5' hsz4 hwm hmb
  go_upto_block 0 with fail
  go_cut [11, 12] (fun v s wc => ∃ n : Nat, s = .int .i64 (n : Nat) ∧ Hid (SuEnd w1 wc d mb v n))
  case first =>
    go_wp2_with fail
    go_loopw [11, 12, 63] (fun v s i wr => ∃ k n : Nat, k ≤ len ∧ i = .int .i64 k ∧ s = .int .i64 n ∧ Hid (SuSt w1 wr d jb mb k v n)) (fun _ _ i _ => len - (intOf i).toNat)
    case atStart => exact ⟨0, 0, by omega, rfl, rfl, hN0⟩
    case round =>
      obtain ⟨k, n, hk, rfl, rfl, hR⟩ := hrel
      obtain ⟨F, j, all, V, G, mc, hG, hW, hT, hal, hn, hmc, hGl⟩ := hR.out.ex
      by_cases hkl : k < len
      · have kz : (k : Int) < (len : Int) := by omega
        obtain ⟨b, off, rfl, hblt, hcell⟩ := hrow1.out.2.2.resolve_left (by omega)
        have hcw : ∀ j, j < 7 → wr.cell? ⟨b, off + k * 7 + j, none⟩ = (ops k).arr[j]? := fun j hj => (hG.bel.cell (p := ⟨b, off + k * 7 + j, none⟩) hblt).trans (hcell k hkl j hj)
        have c0 : wr.cell? ⟨b, off + k * 7, none⟩ = some (.int .i64 (ops k).Do) := hcw 0 (by omega)
        have c1 : wr.cell? ⟨b, off + k * 7 + 1, none⟩ = some (.int .i64 (ops k).N) := hcw 1 (by omega)
        have c2 : wr.cell? ⟨b, off + k * 7 + 2, none⟩ = some (.string (ops k).Bs) := hcw 2 (by omega)
        have c3 : wr.cell? ⟨b, off + k * 7 + 3, none⟩ = some (.int .i64 ((ops k).K 0)) := hcw 3 (by omega)
        have c4 : wr.cell? ⟨b, off + k * 7 + 4, none⟩ = some (.int .i64 ((ops k).K 1)) := hcw 4 (by omega)
        have c5 : wr.cell? ⟨b, off + k * 7 + 5, none⟩ = some (.int .i64 ((ops k).K 2)) := hcw 5 (by omega)
        have c6 : wr.cell? ⟨b, off + k * 7 + 6, none⟩ = some (.int .i64 ((ops k).K 3)) := hcw 6 (by omega)
        have hjk : jsz ops (k + 1) = jsz ops k + (ops k).Bs.size + 1 := rfl
        have hmono := jsz_mono ops (k + 1) (len - (k + 1))
        rw [show k + 1 + (len - (k + 1)) = len by omega] at hmono
        have hbs : (ops k).Bs.size ≤ 4000 := by have := hsz.out; omega
        clear hcw hcell hjk hmono
        generalize hopk : ops k = x at *
        have hB0 : Below wr.heap.size wr (wr.alloc (.cells x.arr 44)) := (Below.refl _ _).alloc (Nat.le_refl _) _
        have hG0 := hG.later hB0
        have hW0 := hW.later hB0
        have hT0 := hT.later hB0
        have hgu : u11.ownBlock ≠ some wr.heap.size := fun e => by have := (hW.own.lt _ e).2; omega
        have hgm : mb ≠ wr.heap.size := fun e => by have := hT.lt; omega
        have hgV : ∀ i, (V i).ownBlock ≠ some wr.heap.size := fun i e => by have := ((hT.row i).own.lt _ e).2; omega
        have hxb : (wr.alloc (.cells x.arr 44)).heap[wr.heap.size]? = some (.cells x.arr 44 (0, 0)) := heap_alloc_new wr _
        unfold JOp.arr at hB0 hG0 hW0 hxb hT0
        generalize hv : wr.alloc (.cells #[.int .i64 x.Do, .int .i64 x.N, .string x.Bs, .int .i64 (x.K 0), .int .i64 (x.K 1), .int .i64 (x.K 2), .int .i64 (x.K 3)] 44) = v at *
        generalize hg : wr.heap.size = g at *
        have d0 : v.cell? ⟨g, 0, none⟩ = some (.int .i64 x.Do) := obj_cell hxb rfl
        have d2 : v.cell? ⟨g, 2, none⟩ = some (.string x.Bs) := obj_cell hxb rfl
        replace hv := Lib.hid hv
        replace hg := Lib.hid hg
        have hgl := obj_lt hxb
        replace hxb := Lib.hid hxb
        replace hG0 := Lib.hid hG0
        replace hW0 := Lib.hid hW0
        replace hT0 := Lib.hid hT0
        replace hB0 := Lib.hid hB0
        replace hopk := Lib.hid hopk
        replace hgu := Lib.hid hgu
        replace hgm := Lib.hid hgm
        replace hgV := Lib.hid hgV
        have hn31 : n ≤ 31 := by omega
        replace hGl := Lib.hid hGl
        replace hn := Lib.hid hn
        clear hG hW hR hT
        go_upto_region 18 with (fail)
        rw [hg.out]
        change Code.wp _ _ _ _ (wr.alloc (.cells #[.int .i64 x.Do, .int .i64 x.N, .string x.Bs, .int .i64 (x.K 0), .int .i64 (x.K 1), .int .i64 (x.K 2), .int .i64 (x.K 3)] 44))
        rw [hv.out]
        by_cases e1 : x.Do = 1
        · have hd1 : (x.Do == 1) = true := by simp [e1]
          replace e1 := Lib.hid e1
          obtain ⟨D, hD, hat⟩ := hT0.out.own
          have hBv := hG0.out.bel.size
          have hgn := hGl.out n
          replace hD := Lib.hid hD
          replace hat := Lib.hid hat
          go_wp2_with (first
            | (at_lookup; refine wpList_lookup_held _ rfl _ _ rfl mb mc D V rfl hD.out hat.out n (by omega) rfl ?_)
            | (at_builtin; refine wpList_appS2 rfl _ _ rfl rfl w1.heap.size (V n) (G n) rfl (hT0.out.row n).own hBv x.Bs rfl (by omega) ?_))
          intro v5 w5 hO5 hGr5 hwh5
          have hK5 : Kp (fun i => (V n).ownBlock = some i) v w5 := ((Kp.refl _ v).alloc _).grown hGr5 fun q hq => .inl hq
          have hD5 : w5.ownsMap Try.prog 3 vR mb mc D := own_block hD.out (hK5.block mb hT0.out.lt (hT0.out.mV n))
          replace hO5 := Lib.hid hO5
          replace hwh5 := Lib.hid hwh5
          replace hK5 := Lib.hid hK5
          replace hD5 := Lib.hid hD5
          clear hGr5
          go_wp2_with (at_mapUpdate; refine wpList_store_held _ rfl _ _ _ (.inl rfl) mb rfl mc (by omega) D hD5.out n (by omega) rfl v5 rfl ?_)
          intro w6 hm6 hg6
          have hK6 : Kp (fun i => mb = i) w5 w6 := (Kp.refl _ _).grown hg6 fun q hq => .inl (by injection hq)
          have hT6 := hT0.out.put (w2 := w6) (fun i hi => (hG0.out.fp i hi).2) (fun q e => (hW0.out.own.lt q e).2) (by omega) hK5.out hO5.out hwh5.out hm6 hK6
          have hG6 := ((hG0.out.apart hK5.out (fun i hi hq => ⟨(hT0.out.row n).out i hq, ((hT0.out.row n).own.lt i hq).1⟩)).apart hK6 (fun i hi e => ⟨fun hF => hT0.out.mF (by subst e; exact hF), by subst e; exact hT0.out.mB⟩)).mono (gT_upd G n (bl x.Bs))
          have hW6 := (hW0.out.kept hK5.out (fun q e hq => hT0.out.all n q hq e)).kept hK6 (fun q e hq => hT0.out.mva (by subst hq; exact e))
          have d6 : w6.cell? ⟨g, 2, none⟩ = some (.string x.Bs) := hK6.cell (p := ⟨g, 2, none⟩) (hK5.out.cell (p := ⟨g, 2, none⟩) d2 (hgV.out n)) hgm.out
          have cS := sj_snap x.Bs (by omega) (by omega) (hn.out ▸ gT_new G n (bl x.Bs)) hG6
          have hGl6 : ∀ i, (upd G n (G n ++ [bl x.Bs]) i).length ≤ k + 1 + 1 := fun i => by
            have := hGl.out i
            by_cases e : i = n
            · subst e; rw [upd_same]; simp; omega
            · rw [upd_other _ _ e]; omega
          replace cS := Lib.hid cS
          replace hT6 := Lib.hid hT6
          replace hW6 := Lib.hid hW6
          replace hGl6 := Lib.hid hGl6
          clear hG6 hK6 hg6 hm6 hD5 hK5 hwh5 hO5 hat hD
          go_wp2_with fail
          refine cS.out.mono ?_
          rintro e v2 ⟨F2, y, rfl, hS2, hc⟩
          have hW2 := hW6.out.step hS2
          have hT2 := hT6.out.step hS2
          rcases hc with ⟨rfl, j2, hG2⟩ | ⟨hy, hG2⟩
          · have hN : Hid (SuSt w1 v2 d jb mb (k + 1) u11 n) := Lib.hid ⟨F2, _, _, _, _, _, hG2, hW2, hT2, by omega, hn.out, by omega, hGl6.out⟩
            clear hG2 hW2 hS2 cS hT2
            go_wp2_with fail
            go_roundw
            case rel => exact ⟨k + 1, n, by omega, by go_num, rfl, hN⟩
            case measure => simp [intOf]; omega
          · have hN : Hid (SuEnd w1 v2 d mb u11 n) := Lib.hid ⟨F2, all, all, _, _, _, hn.out ▸ hG2, hW2, hT2, List.prefix_refl _, by omega, fun i => by have := hGl6.out i; omega⟩
            have hy1 : (y == 0) = false := by simpa using hy
            have hy2 : (y != 0) = true := by simpa using hy
            clear hG2 hW2 hS2 cS hT2
            go_wp2_with fail
            go_meet
            case rel => exact ⟨n, rfl, hN⟩
        · have hd1 : (x.Do == 1) = false := by simpa using e1
          replace e1 := Lib.hid e1
          have hBv := hG0.out.bel.size
          have hnl := hn.out
          have hzn := IntWalk.i64_in ((n : Int) + 1) (by omega)
          clear hnl
          go_wp2_with (at_builtin; refine wpList_appS2 rfl _ _ rfl rfl w1.heap.size _ all rfl hW0.out.own hBv x.Bs rfl (by omega) ?_)
          intro v5 w5 hO5 hGr5 hwh5
          have hK5 : Kp (fun i => u11.ownBlock = some i) v w5 := ((Kp.refl _ v).alloc _).grown hGr5 fun q hq => .inl hq
          have hG5 := hG0.out.apart hK5 (fun i hi hq => ⟨hW0.out.out i hq, (hW0.out.own.lt i hq).1⟩)
          have hT5 := hT0.out.rowed hK5 hwh5
          have hR5 : Rw w1.heap.size F w5 v5 (all ++ [bl x.Bs]) := ⟨hO5, fun q hq hF => by
            rcases hwh5 q hq with h1 | h1
            · exact hW0.out.out q h1 hF
            · have := (hG0.out.fp q hF).2; omega⟩
          have d5 : w5.cell? ⟨g, 2, none⟩ = some (.string x.Bs) := (hK5.cell (p := ⟨g, 2, none⟩) d2 hgu.out)
          have cA := sj_app x.Bs (by omega) (by omega) hG5
          replace cA := Lib.hid cA
          replace hR5 := Lib.hid hR5
          replace hT5 := Lib.hid hT5
          clear hO5 hGr5 hwh5 hK5 hG5
          go_wp2_with fail
          refine cA.out.mono ?_
          rintro e v6 ⟨F6, y, rfl, hS6, hc⟩
          have hR6 := hR5.out.step hS6
          have hT6 := hT5.out.step hS6
          rcases hc with ⟨rfl, j6, hG6⟩ | ⟨hy, all', hp, hG6⟩
          · have hN : Hid (SuSt w1 v6 d jb mb (k + 1) v5 (n + 1)) := Lib.hid ⟨F6, _, _, _, _, _, hG6, hR6, hT6, by simp; omega, by rw [hn.out]; simp, by omega, fun i => by have := hGl.out i; omega⟩
            clear hG6 hR6 hS6 cA hT6
            go_wp2_with fail
            go_roundw
            case rel => exact ⟨k + 1, n + 1, by omega, by go_num, by go_num, hN⟩
            case measure => simp [intOf]; omega
          · have hN : Hid (SuEnd w1 v6 d mb v5 n) := Lib.hid ⟨F6, _, all', _, _, _, hn.out ▸ hG6, hR6, hT6, hp, by simp; omega, fun i => by have := hGl.out i; omega⟩
            have hy1 : (y == 0) = false := by simpa using hy
            have hy2 : (y != 0) = true := by simpa using hy
            clear hG6 hR6 hS6 cA hT6
            go_wp2_with fail
            go_meet
            case rel => exact ⟨n, rfl, hN⟩
      · obtain rfl : k = len := by omega
        have kz : ¬ (k : Int) < (k : Int) := by omega
        have hN : Hid (SuEnd w1 wr d mb u11 n) := Lib.hid ⟨F, all, all, _, _, _, hn ▸ hG.ld, hW, hT, List.prefix_refl _, by omega, fun i => by have := hGl i; omega⟩
        replace hn := Lib.hid hn
        clear hG hW hR hT
        go_wp2_with fail
        go_meet
        case rel => exact ⟨n, rfl, hN⟩
  case rest =>
    obtain ⟨n, rfl, hE⟩ := hcut
    obtain ⟨F, all, all', V, G, mc, hL, hR, hT, hp, hal, hGl⟩ := hE.out.ex
    have hby := (hL.bel.block B hbl).trans hbx1.out
    have q0 : wc.cell? ⟨B, 0, none⟩ = some (.int .i64 (K 0)) := obj_cell hby rfl
    have q1 : wc.cell? ⟨B, 1, none⟩ = some (.int .i64 (K 1)) := obj_cell hby rfl
    have q2 : wc.cell? ⟨B, 2, none⟩ = some (.int .i64 (K 2)) := obj_cell hby rfl
    have q3 : wc.cell? ⟨B, 3, none⟩ = some (.int .i64 (K 3)) := obj_cell hby rfl
    have cC := ld_crash K hK hL
    replace cC := Lib.hid cC
    replace hR := Lib.hid hR
    replace hT := Lib.hid hT
    replace hGl := Lib.hid hGl
    clear hby hL hE hN0
    go_wp2_with fail
    refine cC.out.mono ?_
    rintro e v1 ⟨F1', rfl, hD1, hS1⟩
    have hR1 := hR.out.step hS1
    have hT1 := hT.out.step hS1
    have cO := cd_open hD1
    replace cO := Lib.hid cO
    replace hR1 := Lib.hid hR1
    replace hT1 := Lib.hid hT1
    clear cC hR hT hS1 hD1 q0 q1 q2 q3
    go_wp2_with fail
    refine cO.out.mono ?_
    rintro e v2 ⟨kb, F2, j3, rfl, hO, hSJ, hS2⟩
    have hV2 := hSJ.vj
    have hR2 := hR1.out.step hS2
    have hT2 := hT1.out.step hS2
    have cT := vj_text hV2
    unfold sv at cT
    have hgiv := hO.given
    generalize htx : (⟨j3.text.toArray⟩ : ByteArray) = tx at *
    replace hV2 := Lib.hid hV2
    replace hR2 := Lib.hid hR2
    replace hT2 := Lib.hid hT2
    replace cT := Lib.hid cT
    replace hO := Lib.hid hO
    replace hgiv := Lib.hid hgiv
    replace htx := Lib.hid htx
    clear cO hR1 hT1 hS2 hSJ
    go_wp2_with fail
    refine cT.out.mono ?_
    rintro e v3 ⟨rfl, n3, hv3⟩
    have hb3 : Below v2.heap.size v2 v3 := by rw [hv3]; exact below_dn (Below.refl _ _) n3
    have hV3 := hV2.out.later hb3
    have hR3 := hR2.out.later hb3
    have hT3 := hT2.out.later hb3
    obtain ⟨D, hD, hat⟩ := hT3.own
    obtain ⟨pv, cv, hpv, hsv⟩ := (hT3.row j3.base).own.row
    have hlg := hGl.out j3.base
    have hbb : j3.base ≤ 31 := by have h1 := hO.out.bl; have h2 := hO.out.hi; have h3 := hp.length_le; omega
    replace hV3 := Lib.hid hV3
    replace hR3 := Lib.hid hR3
    replace hD := Lib.hid hD
    replace hat := Lib.hid hat
    replace hpv := Lib.hid hpv
    replace hsv := Lib.hid hsv
    clear hb3 hv3 hT3 hV2 hR2 hT2 cT
    go_wp2_with (at_lookup; refine wpList_lookup_held _ rfl _ _ rfl mb mc D V rfl hD.out hat.out j3.base (by omega) rfl ?_; rw [hpv.out])
    generalize hLs : G j3.base = Ls at *
    replace hLs := Lib.hid hLs
    go_loop [20, 120] (fun was i => ∃ (q : Nat) (bb : Bool), q ≤ Ls.length ∧ i = .int .i64 q ∧ was = .bool bb ∧ Hid (bb = true ↔ ∃ y, y < q ∧ Ls.getD y [] = j3.text)) (fun _ i => Ls.length - (intOf i).toNat)
    case atStart => exact ⟨0, false, by omega, rfl, rfl, Lib.hid ⟨fun h => (by cases h), fun ⟨y, hy, _⟩ => by omega⟩⟩
    case round =>
      obtain ⟨q, bb, hq, rfl, rfl, hbq⟩ := hrel
      by_cases hql : q < Ls.length
      · have qz : (q : Int) < (Ls.length : Int) := by omega
        obtain ⟨sb, so, rfl, hslt, hsc⟩ := hsv.out.2.resolve_left (by omega)
        have c := hsc q hql
        clear hsc
        cases bb with
        | true =>
          generalize (⟨(Ls.getD q []).toArray⟩ : ByteArray) = S at *
          go_wp2_with fail
          go_round
          case rel => exact ⟨q + 1, true, by omega, by go_num, rfl, Lib.hid ⟨fun _ => by obtain ⟨y, hy, e⟩ := hbq.out.1 rfl; exact ⟨y, by omega, e⟩, fun _ => rfl⟩⟩
          case measure => simp [intOf]; omega
        | false =>
          by_cases hy : Ls.getD q [] = j3.text
          · rw [hy, htx.out] at c
            have he2 : (tx.toList == tx.toList) = true := by simp
            have hfin : Hid (true = true ↔ ∃ y, y < q + 1 ∧ Ls.getD y [] = j3.text) := Lib.hid ⟨fun _ => ⟨q, by omega, hy⟩, fun _ => rfl⟩
            replace hy := Lib.hid hy
            go_wp2_with fail
            go_round
            case rel => exact ⟨q + 1, true, by omega, by go_num, rfl, hfin⟩
            case measure => simp [intOf]; omega
          · have hne := text_ne hy
            have hfin : Hid (false = true ↔ ∃ y, y < q + 1 ∧ Ls.getD y [] = j3.text) := Lib.hid ⟨fun h => (by cases h), fun ⟨y, h1, h2⟩ => by
              by_cases e : y = q
              · subst e; exact absurd h2 hy
              · exact hbq.out.2 ⟨y, by omega, h2⟩⟩
            rw [htx.out] at hne
            generalize (⟨(Ls.getD q []).toArray⟩ : ByteArray) = S at *
            replace hy := Lib.hid hy
            go_wp2_with fail
            go_round
            case rel => exact ⟨q + 1, false, by omega, by go_num, rfl, hfin⟩
            case measure => simp [intOf]; omega
      · obtain rfl : q = Ls.length := by omega
        have qz : ¬ ((Ls.length : Nat) : Int) < ((Ls.length : Nat) : Int) := by omega
        obtain rfl : bb = true := hbq.out.2 (by
          have h1 := hgiv.out
          unfold gT at h1
          rw [hLs.out] at h1
          obtain ⟨y, hy, e⟩ := List.mem_iff_getElem.1 h1
          exact ⟨y, hy, by rw [List.getD_eq_getElem?_getD, List.getElem?_eq_getElem hy, e]; rfl⟩)
        clear hbq
        rcases hR3.out.own.two with ⟨rfl, rfl⟩ | ⟨gw, cw, rfl, hcw, hrw⟩
        · have hall := hp.length_le
          rw [List.length_nil] at hall hal
          have hlo := hO.out.lo
          have hhi := hO.out.hi
          have hbl3 := hO.out.bl
          have hz1 : j3.last = 0 := by omega
          have hz2 : j3.base = 0 := by omega
          have hz3 : n = 0 := by omega
          subst hz3
          have hrl : j3.recs = [] := by rw [hO.out.recs, hz1, List.take_zero, List.drop_nil]
          have cL := fun w' (hb : Below v3.heap.size v3 w') => vj_last (hV3.out.later hb) (by omega)
          have cR := fun w' (hb : Below v3.heap.size v3 w') => vj_records (hV3.out.later hb) (by omega)
          have cS := fun (p1 p2 : Option Addr) (c1 c2 : Nat) (w' : World) (h1 : SRow w' p1 j3.recs.length j3.recs) (h2 : SRow w' p2 j3.recs.length j3.recs) => same_any p1 p2 j3.recs.length j3.recs.length c1 c2 j3.recs j3.recs w' h1 h2 (by unfold JM.last at hhi; omega)
          rw [decide_eq_true rfl] at cS
          rw [hz1] at cL
          rw [hrl, List.length_nil] at cS
          rw [hrl, List.length_nil] at cR
          rw [hz1] at hlo hhi hbl3
          replace cL := Lib.hid cL
          replace cR := Lib.hid cR
          replace cS := Lib.hid cS
          rw [hz2]
          have hsr : ∀ (p : Option Addr) (w' : World), SRow w' p 0 [] := fun _ _ => ⟨rfl, .inl rfl⟩
          replace hsr := Lib.hid hsr
          go_wp2_with fail
          refine (cL.out _ (Below.refl _ _)).mono ?_
          rintro e v7 ⟨rfl, n7, hv7⟩
          have hb7 : Below v3.heap.size v3 v7 := by rw [hv7]; exact below_dn (Below.refl _ _) n7
          clear hv7
          replace hb7 := Lib.hid hb7
          go_upto_region 37 with (fail)
          have hbc0 : Hid (Below v3.heap.size v3 v7.drew) := Lib.hid hb7.out.drew
          go_region_held3 (fun _ => True) (exact trivial) (first
            | (go_at_call 28; (with_reducible refine (cR.out _ hbc0.out).mono ?_); rintro e v8 ⟨⟨p8, cap8, rfl, hs8⟩, hb8⟩; have hr8 := hsr.out; have hb8' := hbc0.out.trans (hb8.mono hbc0.out.size); replace hs8 := Lib.hid hs8; replace hr8 := Lib.hid hr8; replace hb8' := Lib.hid hb8'; clear hb8)
            | (go_at_call 27; (with_reducible refine (cS.out _ _ _ _ _ hs8.out (hr8.out _ _)).mono ?_); rintro e v9 ⟨rfl, n9, hv9⟩; have hb9 : Below v3.heap.size v3 v9 := (by rw [hv9]; exact below_dn hb8'.out n9); clear hv9; replace hb9 := Lib.hid hb9))
          all_goals
            go_wp2_with fail
            go_ret
            exact ⟨rfl, hW1.out.trans ((hV3.out.bel.trans (hb9.out.mono hV3.out.bel.size)).mono (by have := hW1.out.size; omega))⟩
        · by_cases hcb : cw = j3.base
          · have hall := hp.length_le
            have hlo := hO.out.lo
            have hhi := hO.out.hi
            have hbl3 := hO.out.bl
            have hrec : j3.recs = (all.take j3.last).drop j3.base := by
              rw [hO.out.recs]
              obtain ⟨r, rfl⟩ := hp
              rw [List.take_append_of_le_length hhi]
            have hrl0 : j3.recs.length = j3.last - j3.base := by rw [hrec, List.length_drop, List.length_take]; omega
            have hz1 : j3.last = cw := by omega
            have hz2 : j3.base = cw := by omega
            have hrl : j3.recs = [] := List.eq_nil_of_length_eq_zero (by omega)
            have cL := fun w' (hb : Below v3.heap.size v3 w') => vj_last (hV3.out.later hb) (by omega)
            have cR := fun w' (hb : Below v3.heap.size v3 w') => vj_records (hV3.out.later hb) (by omega)
            have cS := fun (p1 p2 : Option Addr) (c1 c2 : Nat) (w' : World) (h1 : SRow w' p1 j3.recs.length j3.recs) (h2 : SRow w' p2 j3.recs.length j3.recs) => same_any p1 p2 j3.recs.length j3.recs.length c1 c2 j3.recs j3.recs w' h1 h2 (by unfold JM.last at hhi; omega)
            rw [decide_eq_true rfl] at cS
            rw [hz1] at cL
            rw [hrl, List.length_nil] at cS
            rw [hrl, List.length_nil] at cR
            rw [hz1] at hlo hhi hbl3
            replace cL := Lib.hid cL
            replace cR := Lib.hid cR
            replace cS := Lib.hid cS
            rw [hz2]
            have hsr : ∀ (p : Option Addr) (w' : World), SRow w' p 0 [] := fun _ _ => ⟨rfl, .inl rfl⟩
            replace hsr := Lib.hid hsr
            clear hcb
            have hg4 : decide (n ≤ cw) = true := decide_eq_true (by omega)
            have hg5 : decide (cw ≤ all.length) = true := decide_eq_true (by omega)
            have hg1 : decide ((n : Int) ≤ ((cw : Nat) : Int)) = true := decide_eq_true (by omega)
            have hg2 : decide (((cw : Nat) : Int) ≤ ((all.length : Nat) : Int)) = true := decide_eq_true (by omega)
            clear hrec hrl0
            go_wp2_with fail
            refine (cL.out _ (Below.refl _ _)).mono ?_
            rintro e v7 ⟨rfl, n7, hv7⟩
            have hb7 : Below v3.heap.size v3 v7 := by rw [hv7]; exact below_dn (Below.refl _ _) n7
            clear hv7
            replace hb7 := Lib.hid hb7
            go_upto_region 37 with (fail)
            have hbc0 : Hid (Below v3.heap.size v3 v7.drew) := Lib.hid hb7.out.drew
            go_region_held3 (fun _ => True) (exact trivial) (first
              | (go_at_call 28; (with_reducible refine (cR.out _ hbc0.out).mono ?_); rintro e v8 ⟨⟨p8, cap8, rfl, hs8⟩, hb8⟩; have hr8 := hsr.out; have hb8' := hbc0.out.trans (hb8.mono hbc0.out.size); replace hs8 := Lib.hid hs8; replace hr8 := Lib.hid hr8; replace hb8' := Lib.hid hb8'; clear hb8)
              | (go_at_call 27; (with_reducible refine (cS.out _ _ _ _ _ hs8.out (hr8.out _ _)).mono ?_); rintro e v9 ⟨rfl, n9, hv9⟩; have hb9 : Below v3.heap.size v3 v9 := (by rw [hv9]; exact below_dn hb8'.out n9); clear hv9; replace hb9 := Lib.hid hb9))
            all_goals
              go_wp2_with fail
              go_ret
              exact ⟨rfl, hW1.out.trans ((hV3.out.bel.trans (hb9.out.mono hV3.out.bel.size)).mono (by have := hW1.out.size; omega))⟩
          · have hall := hp.length_le
            have hlo := hO.out.lo
            have hhi := hO.out.hi
            have hbl3 := hO.out.bl
            have hrec : j3.recs = (all.take j3.last).drop j3.base := by
              rw [hO.out.recs]
              obtain ⟨r, rfl⟩ := hp
              rw [List.take_append_of_le_length hhi]
            have hrl0 : j3.recs.length = j3.last - j3.base := by rw [hrec, List.length_drop, List.length_take]; omega
            have hsr : ∀ w', Below v3.heap.size v3 w' → SRow w' (some ⟨gw, j3.base, none⟩) j3.recs.length j3.recs := fun w' hb => by
              have := (hrw.kept hb).piece (n := j3.base) (m := j3.last) hbl3 (by omega)
              rw [Nat.zero_add, ← hrec, ← hrl0] at this
              exact this
            have cL := fun w' (hb : Below v3.heap.size v3 w') => vj_last (hV3.out.later hb) (by omega)
            have cR := fun w' (hb : Below v3.heap.size v3 w') => vj_records (hV3.out.later hb) (by omega)
            have cS := fun (p1 p2 : Option Addr) (c1 c2 : Nat) (w' : World) (h1 : SRow w' p1 j3.recs.length j3.recs) (h2 : SRow w' p2 j3.recs.length j3.recs) => same_any p1 p2 j3.recs.length j3.recs.length c1 c2 j3.recs j3.recs w' h1 h2 (by unfold JM.last at hhi; omega)
            rw [decide_eq_true rfl] at cS
            replace cL := Lib.hid cL
            replace cR := Lib.hid cR
            replace cS := Lib.hid cS
            replace hsr := Lib.hid hsr
            have hg4 : decide (n ≤ j3.last) = true := decide_eq_true (by omega)
            have hg5 : decide (j3.last ≤ all.length) = true := decide_eq_true (by omega)
            have hg1 : decide ((n : Int) ≤ ((j3.last : Nat) : Int)) = true := decide_eq_true (by omega)
            have hg2 : decide (((j3.last : Nat) : Int) ≤ ((all.length : Nat) : Int)) = true := decide_eq_true (by omega)
            have hg6 : decide (j3.base ≤ j3.last) = true := decide_eq_true (by omega)
            have hg3 : decide (((j3.base : Nat) : Int) ≤ ((j3.last : Nat) : Int)) = true := decide_eq_true (by omega)
            have hq4 : ((j3.base : Nat) : Int) ≤ ((j3.last : Nat) : Int) := by omega
            have hq5 : ((j3.last : Nat) : Int) ≤ (cw : Int) := by omega
            have hq7 : (j3.last - j3.base) = j3.recs.length := hrl0.symm
            have hq8 : j3.last ≤ cw := by omega
            clear hrec hrl0
            go_wp2_with fail
            refine (cL.out _ (Below.refl _ _)).mono ?_
            rintro e v7 ⟨rfl, n7, hv7⟩
            have hb7 : Below v3.heap.size v3 v7 := by rw [hv7]; exact below_dn (Below.refl _ _) n7
            clear hv7
            replace hb7 := Lib.hid hb7
            go_upto_region 37 with (fail)
            have hbc0 : Hid (Below v3.heap.size v3 v7.drew) := Lib.hid hb7.out.drew
            go_region_held3 (fun _ => True) (exact trivial) (first
              | (go_at_call 28; (with_reducible refine (cR.out _ hbc0.out).mono ?_); rintro e v8 ⟨⟨p8, cap8, rfl, hs8⟩, hb8⟩; have hr8 := (hsr.out _ (hbc0.out.trans (hb8.mono hbc0.out.size))); have hb8' := hbc0.out.trans (hb8.mono hbc0.out.size); replace hs8 := Lib.hid hs8; replace hr8 := Lib.hid hr8; replace hb8' := Lib.hid hb8'; clear hb8)
              | (go_at_call 27; (with_reducible refine (cS.out _ _ _ _ _ hs8.out hr8.out).mono ?_); rintro e v9 ⟨rfl, n9, hv9⟩; have hb9 : Below v3.heap.size v3 v9 := (by rw [hv9]; exact below_dn hb8'.out n9); clear hv9; replace hb9 := Lib.hid hb9))
            all_goals
              go_wp2_with fail
              go_ret
              exact ⟨rfl, hW1.out.trans ((hV3.out.bel.trans (hb9.out.mono hV3.out.bel.size)).mono (by have := hW1.out.size; omega))⟩
end Go.Proofs.Ytidofjjghbhaaaa
