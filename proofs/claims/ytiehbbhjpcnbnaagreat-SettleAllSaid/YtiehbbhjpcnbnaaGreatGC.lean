/- The contracts of a guard's members, has, hasCurrency, Flagged, netAndShort, balances, Fails, passes, flagAll, flagBehind. -/
import Derived.Test.YtiehbbhjpcnbnaaGreatGB
namespace Go.Proofs.YtiehbbhjpcnbnaaGreat
open Go.RowKit
set_option linter.unusedVariables false

section
variable {G S : Nat → Prop} {gb lb b gL cL gF cF : Nat} {l : LM} {x : WM} {L : Nat → Lim} {fl : Nat → Bool}
set_option maxHeartbeats 1000000 in
theorem members_any (w : World) (h : GS G S gb lb b gL cL gF cF l x L fl w) : Calls Tryz.prog 64 #[.pointer (some ⟨gb, 0, none⟩)] w fun e w' => e = .returned (.int .i64 (x.nm : Int)) ∧ w = w' := by
  have c3 := h.c3
  clear h
  go_enter Tryz.func64, Tryz.ntmps64
  go_wp2_with fail
  go_ret
  exact ⟨rfl, rfl⟩
set_option maxHeartbeats 1000000 in
theorem ghas_any (m : Int) (w : World) (h : GS G S gb lb b gL cL gF cF l x L fl w) : Calls Tryz.prog 115 #[.pointer (some ⟨gb, 0, none⟩), .int .i64 m] w fun e w' => e = .returned (.bool (x.has m)) ∧ w = w' := by
  have hM := Lib.hid (members_any w h)
  clear h
  unfold WM.has
  by_cases h1 : 0 ≤ m
  · by_cases h2 : m < (x.nm : Int)
    · go_enter Tryz.func115, Tryz.ntmps115
      go_wp2_with (first | (go_at_call 64; (with_reducible refine hM.out.mono ?_); rintro e w1 ⟨rfl, rfl⟩))
      go_ret
      exact ⟨retL_bool (by simp; omega), rfl⟩
    · go_enter Tryz.func115, Tryz.ntmps115
      go_wp2_with (first | (go_at_call 64; (with_reducible refine hM.out.mono ?_); rintro e w1 ⟨rfl, rfl⟩))
      go_ret
      exact ⟨retL_bool (by simp; omega), rfl⟩
  · go_enter Tryz.func115, Tryz.ntmps115
    go_wp2_with fail
    go_ret
    exact ⟨retL_bool (by simp; omega), rfl⟩
set_option maxHeartbeats 1000000 in
theorem flagged_any (m : Int) (w : World) (h : GS G S gb lb b gL cL gF cF l x L fl w) : Calls Tryz.prog 93 #[.pointer (some ⟨gb, 0, none⟩), .int .i64 m] w fun e w' => e = .returned (.bool (x.has m && fl m.toNat)) ∧ w = w' := by
  have hH := ghas_any m w h
  have c3 := h.c3
  cases hh : x.has m with
  | false =>
    rw [hh] at hH
    replace hH := Lib.hid hH
    clear h
    go_enter Tryz.func93, Tryz.ntmps93
    go_wp2_with (first | (go_at_call 115; (with_reducible refine hH.out.mono ?_); rintro e w1 ⟨rfl, rfl⟩))
    go_ret
    exact ⟨rfl, rfl⟩
  | true =>
    rw [hh] at hH
    obtain ⟨i, rfl, hi⟩ := WM.has_nat hh
    have hz : (i : Int) < (x.nm : Int) := by omega
    have z := h.fr.cell hi
    rw [Int.toNat_natCast]
    replace hH := Lib.hid hH
    replace hh := Lib.hid hh
    clear h
    cases hf : fl i with
    | false =>
      rw [hf] at z
      replace hf := Lib.hid hf
      go_enter Tryz.func93, Tryz.ntmps93
      go_wp2_with (first | (go_at_call 115; (with_reducible refine hH.out.mono ?_); rintro e w1 ⟨rfl, rfl⟩))
      go_ret
      exact ⟨rfl, rfl⟩
    | true =>
      rw [hf] at z
      replace hf := Lib.hid hf
      go_enter Tryz.func93, Tryz.ntmps93
      go_wp2_with (first | (go_at_call 115; (with_reducible refine hH.out.mono ?_); rintro e w1 ⟨rfl, rfl⟩))
      go_ret
      exact ⟨rfl, rfl⟩
/-- a row of postings of what stays -/
def PRowG (G : Nat → Prop) (w : World) (p : Option Addr) (len : Nat) (ps : List Pst) : Prop := PRow w p len ps ∧ (len = 0 ∨ ∃ r off, p = some ⟨r, off, none⟩ ∧ G r)
theorem PRowG.nil (G : Nat → Prop) (w : World) : PRowG G w none 0 [] := ⟨⟨rfl, (fun q hq => by simp at hq), .inl rfl⟩, .inl rfl⟩
theorem PRow.blocks {w w' : World} {p : Option Addr} {len : Nat} {ps : List Pst} (h : PRow w p len ps) (hs : w.heap.size ≤ w'.heap.size) (hb : ∀ r off, p = some ⟨r, off, none⟩ → len ≠ 0 → r < w.heap.size → w'.heap[r]? = w.heap[r]?) : PRow w' p len ps := by
  obtain ⟨h1, h2, h3⟩ := h
  refine ⟨h1, h2, ?_⟩
  by_cases h0 : len = 0
  · exact .inl h0
  obtain ⟨r, off, rfl, hlt, hc⟩ := h3.resolve_left h0
  have e := hb r off rfl h0 hlt
  refine .inr ⟨r, off, rfl, Nat.lt_of_lt_of_le hlt hs, fun i q hq => ?_⟩
  obtain ⟨a0, a1, a2⟩ := hc i q hq
  exact ⟨(World.cell?_of_block (w := w) e).trans a0, (World.cell?_of_block (w := w) e).trans a1, (World.cell?_of_block (w := w) e).trans a2⟩
theorem PRowG.kp {w w' : World} {p : Option Addr} {len : Nat} {ps : List Pst} (h : PRowG G w p len ps) (hK : Kp (fun j => ¬ G j) w w') : PRowG G w' p len ps := by
  refine ⟨h.1.blocks hK.size fun r off e h0 hlt => ?_, h.2⟩
  obtain ⟨r', off', e', hg⟩ := h.2.resolve_left h0
  rw [e] at e'
  injection e' with e'
  injection e' with e1
  subst e1
  exact hK.block _ hlt fun x => x hg
set_option maxHeartbeats 2000000 in
theorem netShort_any (m : Int) (p : Option Addr) (len cap : Nat) (ps : List Pst) (w : World) (h : GS G S gb lb b gL cL gF cF l x L fl w) (hrow : PRowG G w p len ps) (hlen : len ≤ 30) :
    Calls Tryz.prog 42 #[.pointer (some ⟨gb, 0, none⟩), .int .i64 m, .slice p len cap] w fun e w' => e = .returned (.tuple #[.int .i64 ((x.moved l m).iff m ps).1, .int .i64 ((x.moved l m).iff m ps).2.1, .int .i64 ((x.moved l m).iff m ps).2.2]) ∧ GS G S gb lb b gL cL gF cF l (x.moved l m) L fl w' ∧ Kp (fun j => ¬ G j) w w' := by
  have c1 := h.c1
  have hM : Calls Tryz.prog 45 #[.pointer (some ⟨b, 0, none⟩), .int .i64 m] w fun e w' => e = .returned (.tuple #[]) ∧ GS G S gb lb b gL cL gF cF l (x.moved l m) L fl w' ∧ Kp (fun j => ¬ G j) w w' ∧ w'.cell? ⟨gb, 1, none⟩ = some (.pointer (some ⟨b, 0, none⟩)) ∧ PRow w' p len ps :=
    (h.st.moved m).mono fun e w' ⟨h1, h2, h3⟩ => ⟨h1, h.moved m h2 h3, h3, (h.moved m h2 h3).c1, (hrow.kp h3).1⟩
  replace hM := Lib.hid hM
  clear h hrow
  obtain ⟨R, hR⟩ : ∃ R, (x.moved l m).iff m ps = R := ⟨_, rfl⟩
  obtain ⟨r1, r2, r3⟩ := R
  rw [hR]
  dsimp only
  replace hR := Lib.hid hR
  go_enter Tryz.func42, Tryz.ntmps42
  go_upto_region 2 with (first | (go_at_call 45; (with_reducible refine hM.out.mono ?_); rintro e w1 ⟨rfl, hS1, hK1, d1, hr1⟩))
  obtain ⟨P, hP⟩ := hS1.st.wp
  have hI := if_any m p len cap ps w1 hP hr1 (by omega)
  rw [hR.out] at hI
  replace hI := Lib.hid hI
  replace hS1 := Lib.hid hS1
  replace hK1 := Lib.hid hK1
  clear hP hr1
  go_wp2_with (first | (go_at_call 66; (with_reducible refine hI.out.mono ?_); rintro e w2 ⟨rfl, hb2⟩; replace hb2 := Lib.hid hb2))
  go_ret3
  exact ⟨rfl, hS1.out.below hb2.out, hK1.out.trans (Kp.of_below hb2.out)⟩

theorem IR.seq {w : World} {g n : Nat} {d : Nat → Int} (h : IR w g d n) (hn : n ≤ 1000) (hd : ∀ c, In64 (d c)) : Seq64 w (some ⟨g, 0, none⟩) n ((List.range n).map d) := by
  have hlt := h.lt
  refine ⟨by simp, fun i => ?_, by omega, .inr ⟨g, 0, rfl, hlt, fun i hi => ?_⟩⟩
  · by_cases hi : i < n
    · rw [List.getD_eq_getElem?_getD, List.getElem?_map, List.getElem?_range hi]; exact hd i
    · rw [List.getD_eq_getElem?_getD, List.getElem?_eq_none (by simp; omega)]; exact (by decide : In64 0)
  · rw [Nat.zero_add, h.cell hi, List.getD_eq_getElem?_getD, List.getElem?_map, List.getElem?_range hi]; rfl
theorem range_getD {n c : Nat} {d : Nat → Int} (hc : c < n) : ((List.range n).map d).getD c 0 = d c := by
  rw [List.getD_eq_getElem?_getD, List.getElem?_map, List.getElem?_range hc]; rfl
/-- balances' first way: c currencies are taken -/
structure BLt (w : World) (g nc : Nat) (f : Nat → Int) (k : Nat) (wr : World) : Prop where
  row : IR wr g (fun c => if c < k then f c else 0) nc
  blw : Below w.heap.size w wr
  gge : w.heap.size ≤ g
theorem blt_step (f : Nat → Int) (c a : Nat) : upd (fun a => if a < c then f a else 0) c (f c) a = if a < c + 1 then f a else 0 := by
  unfold upd
  by_cases e : a = c
  · subst e; rw [if_pos rfl, if_pos (by omega)]
  · rw [if_neg e]
    by_cases e2 : a < c
    · rw [if_pos (by omega)]; exact if_pos e2
    · rw [if_neg (by omega)]; exact if_neg e2
/-- balances' second way: k postings are done -/
structure BLp (w : World) (g nc : Nat) (f : Nat → Int) (m : Int) (ps : List Pst) (k : Nat) (d : Nat → Int) (wr : World) : Prop where
  row : IR wr g d nc
  go : goI m d (ps.drop k) = goI m f ps
  ic : ∀ c, In64 (d c)
  blw : Below w.heap.size w wr
  gge : w.heap.size ≤ g
set_option maxHeartbeats 4000000 in
set_option maxRecDepth 100000 in
theorem balances_any (i : Nat) (p : Option Addr) (len cap : Nat) (ps : List Pst) (d : Nat → Int) (w : World) (h : GS G S gb lb b gL cL gF cF l x L fl w) (hrow : PRow w p len ps) (hlen : len ≤ 30) (hi : i < x.nm) (hk : knownC x.cs.length ps = true) (hgo : goI (i : Int) (l.row i) ps = some d) :
    Calls Tryz.prog 101 #[.pointer (some ⟨gb, 0, none⟩), .int .i64 (i : Int), .slice p len cap] w fun e w' => ∃ g c, e = .returned (.tuple #[.slice (some ⟨g, 0, none⟩) x.cs.length c, .int .i64 0]) ∧ IR w' g d x.cs.length ∧ (∀ c, In64 (d c)) ∧ w.heap.size ≤ g ∧ Below w.heap.size w w' := by
  obtain ⟨P, gB, cB, hP⟩ := h.st.pl
  have cZ := psize_any w hP
  have c0 := h.c0
  have hgl := obj_lt h.obj
  have h8 : x.cs.length ≤ 8 := (chk_ok h.chk).2.1
  rw [← h.nc, ← h.nm] at cZ
  have cG : ∀ (c : Nat) (wv : World), Below w.heap.size w wv → Calls Tryz.prog 21 #[.pointer (some ⟨lb, 0, none⟩), .int .i64 (i : Int), .int .i64 (c : Int)] wv fun e w' => e = .returned (.int .i64 (l.row i c)) ∧ wv = w' := fun c wv hb => by
    obtain ⟨P2, gB2, cB2, hP2⟩ := (h.below hb).st.pl
    exact get_any (i : Int) (c : Int) wv hP2
  have hin : ∀ c, In64 (l.row i c) := fun c => get_in h.st.good _ _
  have hmk := make_amounts x.cs.length (by omega)
  replace cZ := Lib.hid cZ
  replace cG := Lib.hid cG
  replace hP := Lib.hid hP
  replace hrow := Lib.hid hrow
  replace hk := Lib.hid hk
  replace hgo := Lib.hid hgo
  replace h := Lib.hid h
  replace hin := Lib.hid hin
  go_enter Tryz.func101, Tryz.ntmps101
  go_upto_region 2 with (first | (go_at_call 27; (with_reducible refine cZ.out.mono ?_); rintro e w1 ⟨rfl, n1, rfl⟩))
  have hb1 : Below w.heap.size w (w.drewN n1) := below_drewN (Below.refl _ _) _
  generalize hw1 : w.drewN n1 = w1 at *
  replace hw1 := Lib.hid hw1
  have hrow1 : IR (w1.alloc (.cells (zi x.cs.length) 2)) w1.heap.size (fun c => if c < 0 then l.row i c else 0) x.cs.length := ⟨_, heap_alloc_new w1 _, fun c hc => by show _ = some (Value.int .i64 (if c < 0 then _ else 0)); rw [if_neg (by omega)]; exact zi_get _ c hc⟩
  have hS0 : BLt w w1.heap.size x.cs.length (l.row i) 0 (w1.alloc (.cells (zi x.cs.length) 2)) := ⟨hrow1, hb1.alloc hb1.size _, hb1.size⟩
  replace hS0 := Lib.hid hS0
  replace hrow1 := Lib.hid hrow1
  replace hb1 := Lib.hid hb1
  go_upto_region 4 with (fail)
  go_loopw [27] (fun i7 wr => ∃ c : Nat, c ≤ x.cs.length ∧ i7 = .int .i64 (c : Int) ∧ Hid (BLt w w1.heap.size x.cs.length (l.row i) c wr)) (fun i7 _ => x.cs.length - (intOf i7).toNat)
  case atStart => exact ⟨0, by omega, rfl, hS0⟩
  case round =>
    obtain ⟨c, hc, rfl, hS⟩ := hrel
    by_cases hcl : c < x.cs.length
    · have hcz : (c : Int) < (x.cs.length : Int) := by omega
      have hT := hS.out
      have z0 := (hT.blw.cell (p := ⟨gb, 0, none⟩) hgl).trans c0
      have cGc := cG.out c wr hT.blw
      have hfz := hT.row.free c
      have hcc := hT.row.cell hcl
      have hS1 : BLt w w1.heap.size x.cs.length (l.row i) (c + 1) (wr.setCell ⟨w1.heap.size, c, none⟩ (.int .i64 (l.row i c))) := ⟨(hT.row.set hcl _).congr fun a ha => blt_step _ _ _, hT.blw.setCell hT.gge _, hT.gge⟩
      replace hT := Lib.hid hT
      replace hS1 := Lib.hid hS1
      replace cGc := Lib.hid cGc
      generalize l.row i c = y at *
      go_wp2_with (first | (go_at_call 21; (with_reducible refine cGc.out.mono ?_); rintro e w2 ⟨rfl, rfl⟩))
      go_roundw
      case rel => exact ⟨c + 1, by omega, by go_num, hS1⟩
      case measure => simp [intOf]; omega
    · obtain rfl : c = x.cs.length := by omega
      have hcz : ¬ (x.cs.length : Int) < (x.cs.length : Int) := by omega
      have hU0 : BLp w w1.heap.size x.cs.length (l.row i) (i : Int) ps 0 (l.row i) wr := ⟨hS.out.row.congr fun c hc => if_pos hc, rfl, hin.out, hS.out.blw, hS.out.gge⟩
      replace hU0 := Lib.hid hU0
      go_upto_region 9 with (fail)
      go_loopw [43] (fun i7 wr => ∃ (k : Nat) (f : Nat → Int), k ≤ len ∧ i7 = .int .i64 (k : Int) ∧ Hid (BLp w w1.heap.size x.cs.length (l.row i) (i : Int) ps k f wr)) (fun i7 _ => len - (intOf i7).toNat)
      case atStart => exact ⟨0, _, by omega, rfl, hU0⟩
      case round =>
        obtain ⟨k, f, hkl, rfl, hU⟩ := hrel
        by_cases hkn : k < len
        · have hkz : (k : Int) < (len : Int) := by omega
          have hT := hU.out
          have hws := hT.blw.size
          obtain ⟨hpl, hpi, hrw⟩ := hrow.out
          obtain ⟨rb, off, rfl, hbs, hcells⟩ := hrw.resolve_left (by omega)
          obtain ⟨y, hq⟩ : ∃ y, ps[k]? = some y := ⟨ps[k], List.getElem?_eq_getElem (by omega)⟩
          obtain ⟨q0, q1, q2⟩ := hcells k y hq
          replace q0 := (hT.blw.cell (p := ⟨rb, off + k * 3, none⟩) hbs).trans q0
          replace q1 := (hT.blw.cell (p := ⟨rb, off + k * 3 + 1, none⟩) hbs).trans q1
          replace q2 := (hT.blw.cell (p := ⟨rb, off + k * 3 + 2, none⟩) hbs).trans q2
          have hbx := heap_alloc_new wr (.cells #[.int .i64 y.m, .int .i64 y.c, .int .i64 y.a] 60)
          have hBz : Below wr.heap.size wr (wr.alloc (.cells #[.int .i64 y.m, .int .i64 y.c, .int .i64 y.a] 60)) := (Below.refl _ _).alloc (Nat.le_refl _) _
          have hyc := known_all hk.out y (List.mem_of_getElem? hq)
          have hy64 := hpi y (List.mem_of_getElem? hq)
          replace hcells := Lib.hid hcells
          replace hrw := Lib.hid hrw
          replace hpi := Lib.hid hpi
          generalize hv1 : wr.alloc (.cells #[.int .i64 y.m, .int .i64 y.c, .int .i64 y.a] 60) = v1 at *
          have d0 : v1.cell? ⟨wr.heap.size, 0, none⟩ = some (.int .i64 y.m) := obj_cell hbx rfl
          have d1 : v1.cell? ⟨wr.heap.size, 1, none⟩ = some (.int .i64 y.c) := obj_cell hbx rfl
          have d2 : v1.cell? ⟨wr.heap.size, 2, none⟩ = some (.int .i64 y.a) := obj_cell hbx rfl
          have hnew : wr.heap.size < v1.heap.size := obj_lt hbx
          replace hv1 := Lib.hid hv1
          replace hbx := Lib.hid hbx
          go_upto_region 11 with (fail)
          change Code.wp _ _ _ _ (wr.alloc (.cells #[.int .i64 y.m, .int .i64 y.c, .int .i64 y.a] 60))
          rw [hv1.out]
          by_cases hm : y.m = (i : Int)
          · have hme : (y.m != (i : Int)) = false := by simpa using hm
            have hgk := hT.go
            rw [goI_step hq, if_pos hm, hgo.out] at hgk
            have hI : In64 (f y.c.toNat + y.a) := by
              by_cases e : In64 (f y.c.toNat + y.a)
              · exact e
              · rw [if_neg e] at hgk; cases hgk
            rw [if_pos hI] at hgk
            obtain ⟨j, hj, hjc⟩ : ∃ j : Nat, y.c = (j : Int) ∧ j < x.cs.length := ⟨y.c.toNat, by omega, by omega⟩
            rw [hj] at d1 hgk hI hyc
            rw [Int.toNat_natCast] at hgk hI
            have hjz : (j : Int) < (x.cs.length : Int) := by omega
            have hfj := hT.ic j
            have hcA := fun w => add_any (f j) y.a w hfj.1 hfj.2 hy64.2.2.1 hy64.2.2.2
            rw [fit_in hI |>.1, fit_in hI |>.2] at hcA
            have hrz := hT.row.at (hBz.block _ hT.row.lt)
            have hrl := hT.row.lt
            replace hcA := Lib.hid hcA
            replace hT := Lib.hid hT
            replace hq := Lib.hid hq
            replace hy64 := Lib.hid hy64
            replace hgk := Lib.hid hgk
            replace hm := Lib.hid hm
            replace hj := Lib.hid hj
            go_upto_region 12 with (fail)
            go_cut [14, 15] from 51 to 61 (fun v14 v15 wc => v14 = .int .i64 (f j + y.a) ∧ v15 = .int .i64 0 ∧ Hid (Below v1.heap.size v1 wc))
            case first =>
              rename_i J1 K1 hJ1 hK1
              refine wp_region_closed (by kernel_rfl) (fun L az wz => ∃ v14 v15 v51 v52 v53 v54 v55 v56 v57 v58 v59 v60 v61 : Value, az = ({ tmps := (Value.pointer (some { block := gb, off := 0 }) :: Value.int IntKind.i64 ↑i :: Value.slice (some { block := rb, off := off }) len cap :: undef :: undef :: undef :: u6 :: u7 :: Value.int IntKind.i64 ↑x.nm :: Value.int IntKind.i64 ↑x.cs.length :: Value.slice (some { block := w1.heap.size, off := 0 }) x.cs.length x.cs.length :: u11 :: undef :: Value.pointer (some { block := wr.heap.size, off := 0 }) :: v14 :: v15 :: Value.tuple #[Value.int IntKind.i64 ↑x.nm, Value.int IntKind.i64 ↑x.cs.length] :: Value.pointer (some { block := gb, off := 0 }) :: Value.pointer (some { block := gb, off := 0 }) :: Value.pointer (some { block := gb, off := 0 }) :: Value.pointer (some { block := lb, off := 0 }) :: Value.tuple #[Value.int IntKind.i64 ↑x.nm, Value.int IntKind.i64 ↑x.cs.length] :: Value.int IntKind.i64 ↑x.nm :: Value.int IntKind.i64 ↑x.cs.length :: Value.int IntKind.i64 ↑x.cs.length :: Value.slice (some { block := w1.heap.size, off := 0 }) x.cs.length x.cs.length :: Value.int IntKind.i64 ↑x.cs.length :: Value.int IntKind.i64 ↑x.cs.length :: Value.bool false :: u29 :: u30 :: u31 :: u32 :: u33 :: u34 :: u35 :: u36 :: u37 :: u38 :: u39 :: u40 :: Value.slice (some { block := rb, off := off }) len cap :: Value.int IntKind.i64 ↑len :: Value.int IntKind.i64 ↑k :: Value.bool true :: Value.pointer (some { block := rb, off := off + k * 3 }) :: Value.agg #[Value.int IntKind.i64 y.m, Value.int IntKind.i64 y.c, Value.int IntKind.i64 y.a] :: Value.pointer (some { block := wr.heap.size, off := 0 }) :: Value.int IntKind.i64 y.m :: Value.int IntKind.i64 ↑i :: Value.bool false :: v51 :: v52 :: v53 :: v54 :: v55 :: v56 :: v57 :: v58 :: v59 :: v60 :: v61 :: u62 :: u63 :: u64 :: u65 :: u66 :: u67 :: u68 :: u69 :: u70 :: undef :: []).toArray, defers := [] } : Act) ∧ (Below v1.heap.size v1 wz) ∧ (L 0 = true → v52 = Value.slice (some { block := w1.heap.size, off := 0 }) x.cs.length x.cs.length) ∧ (L 1 = true → v53 = Value.pointer (some ⟨wr.heap.size, 1, none⟩)) ∧ (L 2 = true → v54 = Value.int IntKind.i64 (j : Int)) ∧ (L 3 = true → v55 = Value.pointer (some ⟨w1.heap.size, j, none⟩)) ∧ (L 4 = true → v56 = Value.int IntKind.i64 (f j)) ∧ (L 5 = true → v57 = Value.pointer (some ⟨wr.heap.size, 2, none⟩)) ∧ (L 6 = true → v58 = Value.int IntKind.i64 y.a) ∧ (L 7 = true → v59 = Value.tuple #[Value.int IntKind.i64 (f j + y.a), Value.int IntKind.i64 0]) ∧ (L 8 = true → v51 = Value.tuple #[Value.int IntKind.i64 (f j + y.a), Value.int IntKind.i64 0]) ∧ (L 9 = true → v60 = Value.int IntKind.i64 (f j + y.a)) ∧ (L 10 = true → v61 = Value.int IntKind.i64 0) ∧ (L 11 = true → v14 = Value.int IntKind.i64 (f j + y.a)) ∧ (L 12 = true → v15 = Value.int IntKind.i64 0)) (by kernel_rfl) ?_ ?_ ?_
              · exact ⟨_, _, _, _, _, _, _, _, _, _, _, _, _, rfl, (Below.refl _ _).drew, nofun, nofun, nofun, nofun, nofun, nofun, nofun, nofun, nofun, nofun, nofun, nofun, nofun⟩
              · intro L az wz iz hiz hni hI hdep hcl
                obtain ⟨v14, v15, v51, v52, v53, v54, v55, v56, v57, v58, v59, v60, v61, rfl, hB, h0, h1, h2, h3, h4, h5, h6, h7, h8, h9, h10, h11, h12⟩ := hI
                have hcase : iz = 0 ∨ iz = 1 ∨ iz = 2 ∨ iz = 3 ∨ iz = 4 ∨ iz = 5 ∨ iz = 6 ∨ iz = 7 ∨ iz = 8 ∨ iz = 9 ∨ iz = 10 ∨ iz = 11 ∨ iz = 12 := by
                  have hi2 : iz < 13 := hiz
                  omega
                rcases hcase with rfl | rfl | rfl | rfl | rfl | rfl | rfl | rfl | rfl | rfl | rfl | rfl | rfl
                · -- 0
                  refine wpOp_step rfl fun Kz hKz => ?_
                  go_simp
                  exact hKz _ _ ⟨_, _, _, _, _, _, _, _, _, _, _, _, _, rfl, hB, fun _ => rfl, fun e => h1 (add_ne e (by decide)), fun e => h2 (add_ne e (by decide)), fun e => h3 (add_ne e (by decide)), fun e => h4 (add_ne e (by decide)), fun e => h5 (add_ne e (by decide)), fun e => h6 (add_ne e (by decide)), fun e => h7 (add_ne e (by decide)), fun e => h8 (add_ne e (by decide)), fun e => h9 (add_ne e (by decide)), fun e => h10 (add_ne e (by decide)), fun e => h11 (add_ne e (by decide)), fun e => h12 (add_ne e (by decide))⟩
                · -- 1
                  refine wpOp_step rfl fun Kz hKz => ?_
                  go_simp
                  exact hKz _ _ ⟨_, _, _, _, _, _, _, _, _, _, _, _, _, rfl, hB, fun e => h0 (add_ne e (by decide)), fun _ => rfl, fun e => h2 (add_ne e (by decide)), fun e => h3 (add_ne e (by decide)), fun e => h4 (add_ne e (by decide)), fun e => h5 (add_ne e (by decide)), fun e => h6 (add_ne e (by decide)), fun e => h7 (add_ne e (by decide)), fun e => h8 (add_ne e (by decide)), fun e => h9 (add_ne e (by decide)), fun e => h10 (add_ne e (by decide)), fun e => h11 (add_ne e (by decide)), fun e => h12 (add_ne e (by decide))⟩
                · -- 2
                  have e1 := h1 (hdep 1 (by decide +kernel))
                  subst e1
                  have z := (hB.cell (p := ⟨wr.heap.size, 1, none⟩) hnew).trans d1
                  refine wpOp_step rfl fun Kz hKz => ?_
                  go_simp
                  exact hKz _ _ ⟨_, _, _, _, _, _, _, _, _, _, _, _, _, rfl, hB, fun e => h0 (add_ne e (by decide)), fun e => h1 (add_ne e (by decide)), fun _ => rfl, fun e => h3 (add_ne e (by decide)), fun e => h4 (add_ne e (by decide)), fun e => h5 (add_ne e (by decide)), fun e => h6 (add_ne e (by decide)), fun e => h7 (add_ne e (by decide)), fun e => h8 (add_ne e (by decide)), fun e => h9 (add_ne e (by decide)), fun e => h10 (add_ne e (by decide)), fun e => h11 (add_ne e (by decide)), fun e => h12 (add_ne e (by decide))⟩
                · -- 3
                  have e0 := h0 (hdep 0 (by decide +kernel))
                  subst e0
                  have e2 := h2 (hdep 2 (by decide +kernel))
                  subst e2
                  refine wpOp_step rfl fun Kz hKz => ?_
                  go_simp
                  exact hKz _ _ ⟨_, _, _, _, _, _, _, _, _, _, _, _, _, rfl, hB, fun e => h0 (add_ne e (by decide)), fun e => h1 (add_ne e (by decide)), fun e => h2 (add_ne e (by decide)), fun _ => rfl, fun e => h4 (add_ne e (by decide)), fun e => h5 (add_ne e (by decide)), fun e => h6 (add_ne e (by decide)), fun e => h7 (add_ne e (by decide)), fun e => h8 (add_ne e (by decide)), fun e => h9 (add_ne e (by decide)), fun e => h10 (add_ne e (by decide)), fun e => h11 (add_ne e (by decide)), fun e => h12 (add_ne e (by decide))⟩
                · -- 4
                  have e3 := h3 (hdep 3 (by decide +kernel))
                  subst e3
                  have z := (hrz.at (hB.block _ hrz.lt)).cell hjc
                  refine wpOp_step rfl fun Kz hKz => ?_
                  go_simp
                  exact hKz _ _ ⟨_, _, _, _, _, _, _, _, _, _, _, _, _, rfl, hB, fun e => h0 (add_ne e (by decide)), fun e => h1 (add_ne e (by decide)), fun e => h2 (add_ne e (by decide)), fun e => h3 (add_ne e (by decide)), fun _ => rfl, fun e => h5 (add_ne e (by decide)), fun e => h6 (add_ne e (by decide)), fun e => h7 (add_ne e (by decide)), fun e => h8 (add_ne e (by decide)), fun e => h9 (add_ne e (by decide)), fun e => h10 (add_ne e (by decide)), fun e => h11 (add_ne e (by decide)), fun e => h12 (add_ne e (by decide))⟩
                · -- 5
                  refine wpOp_step rfl fun Kz hKz => ?_
                  go_simp
                  exact hKz _ _ ⟨_, _, _, _, _, _, _, _, _, _, _, _, _, rfl, hB, fun e => h0 (add_ne e (by decide)), fun e => h1 (add_ne e (by decide)), fun e => h2 (add_ne e (by decide)), fun e => h3 (add_ne e (by decide)), fun e => h4 (add_ne e (by decide)), fun _ => rfl, fun e => h6 (add_ne e (by decide)), fun e => h7 (add_ne e (by decide)), fun e => h8 (add_ne e (by decide)), fun e => h9 (add_ne e (by decide)), fun e => h10 (add_ne e (by decide)), fun e => h11 (add_ne e (by decide)), fun e => h12 (add_ne e (by decide))⟩
                · -- 6
                  have e5 := h5 (hdep 5 (by decide +kernel))
                  subst e5
                  have z := (hB.cell (p := ⟨wr.heap.size, 2, none⟩) hnew).trans d2
                  refine wpOp_step rfl fun Kz hKz => ?_
                  go_simp
                  exact hKz _ _ ⟨_, _, _, _, _, _, _, _, _, _, _, _, _, rfl, hB, fun e => h0 (add_ne e (by decide)), fun e => h1 (add_ne e (by decide)), fun e => h2 (add_ne e (by decide)), fun e => h3 (add_ne e (by decide)), fun e => h4 (add_ne e (by decide)), fun e => h5 (add_ne e (by decide)), fun _ => rfl, fun e => h7 (add_ne e (by decide)), fun e => h8 (add_ne e (by decide)), fun e => h9 (add_ne e (by decide)), fun e => h10 (add_ne e (by decide)), fun e => h11 (add_ne e (by decide)), fun e => h12 (add_ne e (by decide))⟩
                · -- 7
                  have e4 := h4 (hdep 4 (by decide +kernel))
                  subst e4
                  have e6 := h6 (hdep 6 (by decide +kernel))
                  subst e6
                  refine wpOp_step rfl fun Kz hKz => ?_
                  go_simp
                  go_at_call 61
                  refine (hcA.out _).mono ?_
                  rintro e w1 ⟨rfl, hbq⟩
                  go_simp
                  exact hKz _ _ ⟨_, _, _, _, _, _, _, _, _, _, _, _, _, rfl, chain_trans hB hbq, fun e => h0 (add_ne e (by decide)), fun e => h1 (add_ne e (by decide)), fun e => h2 (add_ne e (by decide)), fun e => h3 (add_ne e (by decide)), fun e => h4 (add_ne e (by decide)), fun e => h5 (add_ne e (by decide)), fun e => h6 (add_ne e (by decide)), fun _ => rfl, fun e => h8 (add_ne e (by decide)), fun e => h9 (add_ne e (by decide)), fun e => h10 (add_ne e (by decide)), fun e => h11 (add_ne e (by decide)), fun e => h12 (add_ne e (by decide))⟩
                · -- 8
                  have e7 := h7 (hdep 7 (by decide +kernel))
                  subst e7
                  refine wpOp_step rfl fun Kz hKz => ?_
                  go_simp
                  exact hKz _ _ ⟨_, _, _, _, _, _, _, _, _, _, _, _, _, rfl, hB, fun e => h0 (add_ne e (by decide)), fun e => h1 (add_ne e (by decide)), fun e => h2 (add_ne e (by decide)), fun e => h3 (add_ne e (by decide)), fun e => h4 (add_ne e (by decide)), fun e => h5 (add_ne e (by decide)), fun e => h6 (add_ne e (by decide)), fun e => h7 (add_ne e (by decide)), fun _ => rfl, fun e => h9 (add_ne e (by decide)), fun e => h10 (add_ne e (by decide)), fun e => h11 (add_ne e (by decide)), fun e => h12 (add_ne e (by decide))⟩
                · -- 9
                  have e8 := h8 (hdep 8 (by decide +kernel))
                  subst e8
                  refine wpOp_step rfl fun Kz hKz => ?_
                  go_simp
                  exact hKz _ _ ⟨_, _, _, _, _, _, _, _, _, _, _, _, _, rfl, hB, fun e => h0 (add_ne e (by decide)), fun e => h1 (add_ne e (by decide)), fun e => h2 (add_ne e (by decide)), fun e => h3 (add_ne e (by decide)), fun e => h4 (add_ne e (by decide)), fun e => h5 (add_ne e (by decide)), fun e => h6 (add_ne e (by decide)), fun e => h7 (add_ne e (by decide)), fun e => h8 (add_ne e (by decide)), fun _ => rfl, fun e => h10 (add_ne e (by decide)), fun e => h11 (add_ne e (by decide)), fun e => h12 (add_ne e (by decide))⟩
                · -- 10
                  have e8 := h8 (hdep 8 (by decide +kernel))
                  subst e8
                  refine wpOp_step rfl fun Kz hKz => ?_
                  go_simp
                  exact hKz _ _ ⟨_, _, _, _, _, _, _, _, _, _, _, _, _, rfl, hB, fun e => h0 (add_ne e (by decide)), fun e => h1 (add_ne e (by decide)), fun e => h2 (add_ne e (by decide)), fun e => h3 (add_ne e (by decide)), fun e => h4 (add_ne e (by decide)), fun e => h5 (add_ne e (by decide)), fun e => h6 (add_ne e (by decide)), fun e => h7 (add_ne e (by decide)), fun e => h8 (add_ne e (by decide)), fun e => h9 (add_ne e (by decide)), fun _ => rfl, fun e => h11 (add_ne e (by decide)), fun e => h12 (add_ne e (by decide))⟩
                · -- 11
                  have e9 := h9 (hdep 9 (by decide +kernel))
                  subst e9
                  refine wpOp_step rfl fun Kz hKz => ?_
                  go_simp
                  exact hKz _ _ ⟨_, _, _, _, _, _, _, _, _, _, _, _, _, rfl, hB, fun e => h0 (add_ne e (by decide)), fun e => h1 (add_ne e (by decide)), fun e => h2 (add_ne e (by decide)), fun e => h3 (add_ne e (by decide)), fun e => h4 (add_ne e (by decide)), fun e => h5 (add_ne e (by decide)), fun e => h6 (add_ne e (by decide)), fun e => h7 (add_ne e (by decide)), fun e => h8 (add_ne e (by decide)), fun e => h9 (add_ne e (by decide)), fun e => h10 (add_ne e (by decide)), fun _ => rfl, fun e => h12 (add_ne e (by decide))⟩
                · -- 12
                  have e10 := h10 (hdep 10 (by decide +kernel))
                  subst e10
                  refine wpOp_step rfl fun Kz hKz => ?_
                  go_simp
                  exact hKz _ _ ⟨_, _, _, _, _, _, _, _, _, _, _, _, _, rfl, hB, fun e => h0 (add_ne e (by decide)), fun e => h1 (add_ne e (by decide)), fun e => h2 (add_ne e (by decide)), fun e => h3 (add_ne e (by decide)), fun e => h4 (add_ne e (by decide)), fun e => h5 (add_ne e (by decide)), fun e => h6 (add_ne e (by decide)), fun e => h7 (add_ne e (by decide)), fun e => h8 (add_ne e (by decide)), fun e => h9 (add_ne e (by decide)), fun e => h10 (add_ne e (by decide)), fun e => h11 (add_ne e (by decide)), fun _ => rfl⟩
              · intro L az wz hI hL
                obtain ⟨v14, v15, v51, v52, v53, v54, v55, v56, v57, v58, v59, v60, v61, rfl, hB, h0, h1, h2, h3, h4, h5, h6, h7, h8, h9, h10, h11, h12⟩ := hI
                refine hK1 _ _ (Met.intro (hJ1 _ _ ?_))
                (repeat apply Exists.intro)
                refine ⟨?rel, rfl⟩
                case rel => exact ⟨h11 (hL 11 (by decide)), h12 (hL 12 (by decide)), Lib.hid hB⟩
            case rest =>
              obtain ⟨rfl, rfl, hBc⟩ := hcut
              have hB3 : Below w.heap.size w wc := hT.out.blw.trans ((hBz.trans (hBc.out.mono hBz.size)).mono hws)
              have hr3 := hrz.at (hBc.out.block _ (by have := hrz.lt; exact this))
              have e1 := (hBc.out.cell (p := ⟨wr.heap.size, 1, none⟩) hnew).trans d1
              have hfz := hr3.free j
              have hcc := hr3.cell hjc
              have hU1 : BLp w w1.heap.size x.cs.length (l.row i) (i : Int) ps (k + 1) (upd f j (f j + y.a)) (wc.setCell ⟨w1.heap.size, j, none⟩ (.int .i64 (f j + y.a))) := ⟨hr3.set hjc _, by rw [hgo.out]; exact hgk.out, upd_in hT.out.ic hI, hB3.setCell hT.out.gge _, hT.out.gge⟩
              replace hU1 := Lib.hid hU1
              replace hB3 := Lib.hid hB3
              replace hr3 := Lib.hid hr3
              replace hrz := Lib.hid hrz
              clear d0 d1 d2
              go_wp2_with fail
              go_roundw
              case rel => exact ⟨k + 1, _, by omega, by go_num, hU1⟩
              case measure => simp [intOf]; omega
          · have hme : (y.m != (i : Int)) = true := by simpa using hm
            have hU1 : BLp w w1.heap.size x.cs.length (l.row i) (i : Int) ps (k + 1) f v1 := ⟨hT.row.at (hBz.block _ hT.row.lt), by rw [← hT.go, goI_step hq, if_neg hm], hT.ic, hT.blw.trans (hBz.mono hws), hT.gge⟩
            replace hU1 := Lib.hid hU1
            replace hT := Lib.hid hT
            replace hq := Lib.hid hq
            replace hm := Lib.hid hm
            go_wp2_with fail
            go_roundw
            case rel => exact ⟨k + 1, _, by omega, by go_num, hU1⟩
            case measure => simp [intOf]; omega
        · obtain rfl : k = len := by omega
          have hkz : ¬ (k : Int) < (k : Int) := by omega
          have hT := hU.out
          have hd : f = d := by
            have h1 := hT.go
            rw [List.drop_eq_nil_of_le (by have := hrow.out.1; omega), hgo.out] at h1
            injection h1
          subst hd
          replace hT := Lib.hid hT
          go_wp2_with fail
          go_ret2
          exact ⟨_, ⟨_, rfl⟩, hT.out.row, hT.out.ic, hT.out.gge, hT.out.blw⟩
/-- what Fails tells -/
def failV (cs : List Cur) (nm : Nat) (l : LM) (L : Nat → Lim) (m : Int) (ps : List Pst) : Int := if 0 ≤ m ∧ m < nm then failF cs cs.length (L m.toNat) (l.row m.toNat) m ps else 7
theorem has_iff {x : WM} {m : Int} : x.has m = true ↔ 0 ≤ m ∧ m < x.nm := by unfold WM.has; simp
set_option maxHeartbeats 4000000 in
set_option maxRecDepth 100000 in
theorem gfails_any (m : Int) (p : Option Addr) (len cap : Nat) (ps : List Pst) (w : World) (h : GS G S gb lb b gL cL gF cF l x L fl w) (hrow : PRowG G w p len ps) (hlen : len ≤ 30) :
    Calls Tryz.prog 71 #[.pointer (some ⟨gb, 0, none⟩), .int .i64 m, .slice p len cap] w fun e w' => e = .returned (.int .i64 (failV x.cs x.nm l L m ps)) ∧ GS G S gb lb b gL cL gF cF l (x.moved l m) L fl w' ∧ Kp (fun j => ¬ G j) w w' := by
  have hN := netShort_any m p len cap ps w h hrow hlen
  unfold failV
  cases hh : x.has m with
  | false =>
    have hx : (x.moved l m).iff m ps = (0, 0, 1) := by
      have e : x.moved l m = x := by unfold WM.moved; rw [hh]; rfl
      rw [e]; unfold WM.iff; rw [hh]; rfl
    rw [if_neg (fun e => by rw [has_iff.2 e] at hh; cases hh)]
    rw [hx] at hN
    replace hN := Lib.hid hN
    replace h := Lib.hid h
    replace hrow := Lib.hid hrow
    go_enter Tryz.func71, Tryz.ntmps71
    go_wp2_with (first | (go_at_call 42; (with_reducible refine hN.out.mono ?_); rintro e w1 ⟨rfl, hS1, hK1⟩; replace hS1 := Lib.hid hS1; replace hK1 := Lib.hid hK1))
    go_ret
    exact ⟨rfl, hS1.out, hK1.out⟩
  | true =>
    rw [if_pos (has_iff.1 hh)]
    obtain ⟨i, rfl, hi⟩ := WM.has_nat hh
    rw [Int.toNat_natCast]
    obtain ⟨T, hy, hSi⟩ : ∃ T, x.moved l (i : Int) = ⟨x.cs, x.nm, T⟩ ∧ T i = l.row i := by
      unfold WM.moved; rw [hh, if_pos rfl]; exact ⟨_, rfl, by rw [Int.toNat_natCast]; exact if_pos rfl⟩
    have hR : (x.moved l (i : Int)).iff (i : Int) ps = ifM x.cs x.cs.length (l.row i) (i : Int) ps := by
      rw [hy]; unfold WM.iff
      rw [show (⟨x.cs, x.nm, T⟩ : WM).has (i : Int) = true from hh, if_pos rfl]
      show ifM x.cs x.cs.length (T (i : Int).toNat) _ _ = _
      rw [Int.toNat_natCast, hSi]
    rw [hR, hy] at hN
    rw [hy]
    clear hR hy
    by_cases he : (ifM x.cs x.cs.length (l.row i) (i : Int) ps).2.2 = 0
    · obtain ⟨d, hk, hgo, eR, hb0⟩ := ifM_ok he
      have hV : failF x.cs x.cs.length (L i) (l.row i) (i : Int) ps = bits (decide ((bothM x.cs x.cs.length d).1 < 0)) (exB x.cs.length (L i) d) (decide ((L i).all < (bothM x.cs x.cs.length d).2.1)) := by
        rw [failF_go hk hgo]; exact if_pos hb0
      rw [hV]
      rw [eR, hb0] at hN
      clear eR he hb0 hV
      generalize (bothM x.cs x.cs.length d).1 = NV at *
      generalize (bothM x.cs x.cs.length d).2.1 = SV at *
      obtain ⟨V, hVe⟩ : ∃ V, bits (decide (NV < 0)) (exB x.cs.length (L i) d) (decide ((L i).all < SV)) = V := ⟨_, rfl⟩
      rw [hVe]
      replace hVe := Lib.hid hVe
      have hnc8 : x.cs.length ≤ 8 := (chk_ok h.chk).2.1
      have hiz : (i : Int) < (x.nm : Int) := by omega
      replace hN := Lib.hid hN
      replace h := Lib.hid h
      replace hrow := Lib.hid hrow
      replace hh := Lib.hid hh
      go_enter Tryz.func71, Tryz.ntmps71
      go_upto_region 4 with (first | (go_at_call 42; (with_reducible refine hN.out.mono ?_); rintro e w1 ⟨rfl, hS1, hK1⟩))
      have hB := balances_any i p len cap ps d w1 hS1 (hrow.out.kp hK1).1 hlen hi hk hgo
      replace hB := Lib.hid hB
      replace hK1 := Lib.hid hK1
      go_upto_region 7 with (first | (go_at_call 101; (with_reducible refine hB.out.mono ?_); rintro e w2 ⟨g, c, rfl, hr2, hd2, hg2, hb2⟩))
      have hS2 := hS1.below hb2
      have z3 := hS2.c2
      obtain ⟨cs, hcs, hlim⟩ := hS2.lim
      obtain ⟨gs, c', a1, a2, a3, a4, a5, a6, a7⟩ := hlim i hi
      have z0 : w2.cell? ⟨gL, i * 2, none⟩ = some (.slice (some ⟨gs, 0, none⟩) x.cs.length c') := obj_cell hcs a1
      have z1 : w2.cell? ⟨gL, i * 2 + 1, none⟩ = some (.int .i64 (L i).all) := obj_cell hcs a2
      have hF := failed_any (some ⟨gs, 0, none⟩) c' (L i) (some ⟨g, 0, none⟩) x.cs.length c ((List.range x.cs.length).map d) NV SV w2 (hr2.seq (by omega) hd2) a5 a6
      rw [exB_congr (f := d) fun c hc => range_getD hc] at hF
      rw [hVe.out] at hF
      replace hS2 := Lib.hid hS2
      replace hS1 := Lib.hid hS1
      replace hF := Lib.hid hF
      replace hcs := Lib.hid hcs
      replace hlim := Lib.hid hlim
      replace hr2 := Lib.hid hr2
      replace hb2 := Lib.hid hb2
      replace hd2 := Lib.hid hd2
      replace a5 := Lib.hid a5
      replace a6 := Lib.hid a6
      clear a1 a2
      go_wp2_with (first | (go_at_call 102; (with_reducible refine hF.out.mono ?_); rintro e w3 ⟨rfl, hb3⟩; replace hb3 := Lib.hid hb3))
      go_ret
      exact ⟨rfl, hS2.out.below hb3.out, (hK1.out.trans (Kp.of_below hb2.out)).trans (Kp.of_below hb3.out)⟩
    · rw [failF_err he]
      generalize ifM x.cs x.cs.length (l.row i) (i : Int) ps = R at *
      obtain ⟨r1, r2, r3⟩ := R
      dsimp only at hN he
      have hne : (r3 != 0) = true := by simpa using he
      replace hN := Lib.hid hN
      replace h := Lib.hid h
      replace hrow := Lib.hid hrow
      replace hh := Lib.hid hh
      go_enter Tryz.func71, Tryz.ntmps71
      go_wp2_with (first | (go_at_call 42; (with_reducible refine hN.out.mono ?_); rintro e w1 ⟨rfl, hS1, hK1⟩; replace hS1 := Lib.hid hS1; replace hK1 := Lib.hid hK1))
      go_ret
      exact ⟨rfl, hS1.out, hK1.out⟩
set_option maxHeartbeats 1000000 in
theorem passes_any (m : Int) (p : Option Addr) (len cap : Nat) (ps : List Pst) (w : World) (h : GS G S gb lb b gL cL gF cF l x L fl w) (hrow : PRowG G w p len ps) (hlen : len ≤ 30) :
    Calls Tryz.prog 46 #[.pointer (some ⟨gb, 0, none⟩), .int .i64 m, .slice p len cap] w fun e w' => e = .returned (.bool (decide (failV x.cs x.nm l L m ps = 0))) ∧ GS G S gb lb b gL cL gF cF l (x.moved l m) L fl w' ∧ Kp (fun j => ¬ G j) w w' := by
  have hF := gfails_any m p len cap ps w h hrow hlen
  generalize failV x.cs x.nm l L m ps = V at *
  replace hF := Lib.hid hF
  clear h hrow
  by_cases hV : V = 0
  · subst hV
    go_enter Tryz.func46, Tryz.ntmps46
    go_wp2_with (first | (go_at_call 71; (with_reducible refine hF.out.mono ?_); rintro e w1 ⟨rfl, hS1, hK1⟩; replace hS1 := Lib.hid hS1; replace hK1 := Lib.hid hK1))
    go_ret
    exact ⟨rfl, hS1.out, hK1.out⟩
  · have hz : (V == 0) = false := by simpa using hV
    rw [show decide (V = 0) = false from by simpa using hV]
    go_enter Tryz.func46, Tryz.ntmps46
    go_wp2_with (first | (go_at_call 71; (with_reducible refine hF.out.mono ?_); rintro e w1 ⟨rfl, hS1, hK1⟩; replace hS1 := Lib.hid hS1; replace hK1 := Lib.hid hK1))
    go_ret
    exact ⟨rfl, hS1.out, hK1.out⟩

/-- k members' flags are set anew -/
def flk (cs : List Cur) (nm : Nat) (l : LM) (L : Nat → Lim) (fl : Nat → Bool) (k : Nat) : Nat → Bool := fun j => if j < k then !decide (failV cs nm l L (j : Int) [] = 0) else fl j
theorem flk_step (cs : List Cur) (nm : Nat) (l : LM) (L : Nat → Lim) (fl : Nat → Bool) (k : Nat) : upd (flk cs nm l L fl k) k (!decide (failV cs nm l L (k : Int) [] = 0)) = flk cs nm l L fl (k + 1) := by
  funext j
  unfold upd flk
  by_cases e : j = k
  · subst e; rw [if_pos rfl, if_pos (by omega)]
  · rw [if_neg e]
    by_cases e2 : j < k
    · rw [if_pos e2, if_pos (by omega)]
    · rw [if_neg e2, if_neg (by omega)]
/-- flagAll's way -/
structure FLS (G S : Nat → Prop) (gb lb b gL cL gF cF : Nat) (l : LM) (x : WM) (L : Nat → Lim) (fl : Nat → Bool) (w : World) (k : Nat) (wr : World) : Prop where
  gs : GS G S gb lb b gL cL gF cF l (x.all l k) L (flk x.cs x.nm l L fl k) wr
  kp : Kp (fun j => ¬ G j ∨ j = gF) w wr
theorem add_nf {L : Nat → Bool} {n j : Nat} (h : add L n j = false) : L j = false := by
  cases e : L j with
  | false => rfl
  | true => rw [add_old e] at h; cases h
theorem add_self (L : Nat → Bool) (n : Nat) : add L n n = true := add_iff.2 (.inr rfl)
theorem GS.drew {w : World} (h : GS G S gb lb b gL cL gF cF l x L fl w) : GS G S gb lb b gL cL gF cF l x L fl w.drew := h.below (Below.refl _ _).drew
set_option maxHeartbeats 4000000 in
set_option maxRecDepth 100000 in
theorem flagAll_any (w : World) (h : GS G S gb lb b gL cL gF cF l x L fl w) :
    Calls Tryz.prog 50 #[.pointer (some ⟨gb, 0, none⟩)] w fun e w' => e = .returned (.tuple #[]) ∧ GS G S gb lb b gL cL gF cF l (WM.new x.cs l) L (fun k => !decide (failV x.cs x.nm l L (k : Int) [] = 0)) w' ∧ Kp (fun j => ¬ G j ∨ j = gF) w w' := by
  have hM := Lib.hid (members_any w h)
  have h0 : FLS G S gb lb b gL cL gF cF l x L fl w 0 w := ⟨by
    rw [all_zero]
    exact h.flags fun m hm => by unfold flk; rw [if_neg (by omega)], Kp.refl _ _⟩
  have hfin : ∀ wr, FLS G S gb lb b gL cL gF cF l x L fl w x.nm wr → GS G S gb lb b gL cL gF cF l (WM.new x.cs l) L (fun k => !decide (failV x.cs x.nm l L (k : Int) [] = 0)) wr := fun wr hr => by
    have e : x.all l x.nm = WM.new x.cs l := by
      unfold WM.all WM.new
      rw [h.nm]
      congr 1
      funext a
      by_cases ha : a < l.nm
      · rw [if_pos ha]
      · rw [if_neg ha, h.out a (by rw [h.nm]; exact ha), row_out ha]
    have h2 := hr.gs
    rw [e] at h2
    exact h2.flags fun m hm => by
      have hm' : m < x.nm := by rw [h.nm]; exact hm
      unfold flk; rw [if_pos hm']
  have c3 := h.c3
  have hsz := obj_lt h.obj
  have h16 := h.nm16
  replace h0 := Lib.hid h0
  replace hfin := Lib.hid hfin
  replace h := Lib.hid h
  go_enter Tryz.func50, Tryz.ntmps50
  go_upto_region 1 with (first | (go_at_call 64; (with_reducible refine hM.out.mono ?_); rintro e w1 ⟨rfl, rfl⟩))
  go_loopw [5] (fun i wr => ∃ k : Nat, k ≤ x.nm ∧ i = .int .i64 (k : Int) ∧ Hid (FLS G S gb lb b gL cL gF cF l x L fl w k wr)) (fun i _ => x.nm - (intOf i).toNat)
  case atStart => exact ⟨0, by omega, rfl, h0⟩
  case round =>
    obtain ⟨k, hk, rfl, hS⟩ := hrel
    by_cases hkl : k < x.nm
    · have hkz : (k : Int) < (x.nm : Int) := by omega
      have hT := hS.out
      have hP : ∀ wv, GS G S gb lb b gL cL gF cF l (x.all l k) L (flk x.cs x.nm l L fl k) wv → Calls Tryz.prog 46 #[.pointer (some ⟨gb, 0, none⟩), .int .i64 (k : Int), .slice none 0 0] wv fun e w' => e = .returned (.bool (decide (failV x.cs x.nm l L (k : Int) [] = 0))) ∧ GS G S gb lb b gL cL gF cF l (x.all l (k + 1)) L (flk x.cs x.nm l L fl k) w' ∧ Kp (fun j => ¬ G j) wv w' := fun wv hv => by
        have := passes_any (k : Int) none 0 0 [] wv hv (PRowG.nil G wv) (by omega)
        rw [all_step x l hkl] at this
        exact this
      have hstep := flk_step x.cs x.nm l L fl k
      have hset : ∀ wv (v : Bool), GS G S gb lb b gL cL gF cF l (x.all l (k + 1)) L (flk x.cs x.nm l L fl k) wv → GS G S gb lb b gL cL gF cF l (x.all l (k + 1)) L (upd (flk x.cs x.nm l L fl k) k v) (wv.setCell ⟨gF, k, none⟩ (.bool v)) := fun wv v hv => hv.setF (by exact hkl) v
      have hcall : ∀ wv, GS G S gb lb b gL cL gF cF l (x.all l (k + 1)) L (flk x.cs x.nm l L fl k) wv → wv.cell? ⟨gb, 3, none⟩ = some (.slice (some ⟨gF, 0, none⟩) x.nm cF) := fun wv hv => hv.c3
      generalize decide (failV x.cs x.nm l L (k : Int) [] = 0) = B at *
      replace hP := Lib.hid hP
      replace hstep := Lib.hid hstep
      replace hset := Lib.hid hset
      replace hcall := Lib.hid hcall
      replace hT := Lib.hid hT
      go_upto_block 1 with fail
      go_cut [2] from 7 to 17 (fun v2 wc => Hid (GS G S gb lb b gL cL gF cF l (x.all l (k + 1)) L (flk x.cs x.nm l L fl (k + 1)) wc) ∧ Hid (Kp (fun j => ¬ G j ∨ j = gF) wr wc))
      case first =>
        go_upto_region 3 with (fail)
        rename_i J1 K1 hJ1 hK1
        refine wp_region_closed (by kernel_rfl) (fun LL az wz => ∃ v8 v9 v10 v11 v12 v13 v14 v15 v16 v17 : Value, az = ({ tmps := (Value.pointer (some { block := gb, off := 0 }) :: undef :: Value.int IntKind.i64 ↑k :: Value.pointer (some { block := gb, off := 0 }) :: Value.int IntKind.i64 ↑x.nm :: Value.int IntKind.i64 ↑k :: Value.bool true :: Value.int IntKind.i64 ↑k :: v8 :: v9 :: v10 :: v11 :: v12 :: v13 :: v14 :: v15 :: v16 :: v17 :: u18 :: []).toArray, defers := [] } : Act) ∧ (LL 7 = false → GS G S gb lb b gL cL gF cF l (x.all l k) L (flk x.cs x.nm l L fl k) wz) ∧ (LL 7 = true → LL 10 = false → GS G S gb lb b gL cL gF cF l (x.all l (k + 1)) L (flk x.cs x.nm l L fl k) wz) ∧ (LL 10 = true → GS G S gb lb b gL cL gF cF l (x.all l (k + 1)) L (upd (flk x.cs x.nm l L fl k) k (!B)) wz) ∧ (Kp (fun j => ¬ G j ∨ j = gF) wr wz) ∧ (wz.cell? ⟨gb, 3, none⟩ = some (Value.slice (some ⟨gF, 0, none⟩) x.nm cF)) ∧ (LL 0 = true → v8 = Value.pointer (some ⟨gb, 0, none⟩)) ∧ (LL 1 = true → v9 = Value.pointer (some ⟨gb, 0, none⟩)) ∧ (LL 2 = true → v10 = Value.pointer (some ⟨gb, 3, none⟩)) ∧ (LL 3 = true → v11 = Value.slice (some ⟨gF, 0, none⟩) x.nm cF) ∧ (LL 4 = true → v12 = Value.int IntKind.i64 (k : Int)) ∧ (LL 5 = true → v13 = Value.pointer (some ⟨gb, 0, none⟩)) ∧ (LL 6 = true → v14 = Value.int IntKind.i64 (k : Int)) ∧ (LL 7 = true → v15 = Value.bool B) ∧ (LL 8 = true → v16 = Value.bool (!B)) ∧ (LL 9 = true → v17 = Value.pointer (some ⟨gF, k, none⟩))) (by kernel_rfl) ?_ ?_ ?_
        · exact ⟨_, _, _, _, _, _, _, _, _, _, rfl, fun _ => hT.out.gs.drew, nofun, nofun, (Kp.refl _ _).drew, hT.out.gs.drew.c3, nofun, nofun, nofun, nofun, nofun, nofun, nofun, nofun, nofun, nofun⟩
        · intro LL az wz iz hiz hni hI hdep hcl
          obtain ⟨v8, v9, v10, v11, v12, v13, v14, v15, v16, v17, rfl, hA, hC, hD, hKp, hz3, h0, h1, h2, h3, h4, h5, h6, h7, h8, h9⟩ := hI
          have hcase : iz = 0 ∨ iz = 1 ∨ iz = 2 ∨ iz = 3 ∨ iz = 4 ∨ iz = 5 ∨ iz = 6 ∨ iz = 7 ∨ iz = 8 ∨ iz = 9 ∨ iz = 10 := by
            have hi2 : iz < 11 := hiz
            omega
          rcases hcase with rfl | rfl | rfl | rfl | rfl | rfl | rfl | rfl | rfl | rfl | rfl
          · -- 0
            refine wpOp_step rfl fun Kz hKz => ?_
            go_simp
            exact hKz _ _ ⟨_, _, _, _, _, _, _, _, _, _, rfl, fun e => hA (add_nf e), fun e e2 => hC (add_ne e (by decide)) (add_nf e2), fun e => hD (add_ne e (by decide)), hKp, hz3, fun _ => rfl, fun e => h1 (add_ne e (by decide)), fun e => h2 (add_ne e (by decide)), fun e => h3 (add_ne e (by decide)), fun e => h4 (add_ne e (by decide)), fun e => h5 (add_ne e (by decide)), fun e => h6 (add_ne e (by decide)), fun e => h7 (add_ne e (by decide)), fun e => h8 (add_ne e (by decide)), fun e => h9 (add_ne e (by decide))⟩
          · -- 1
            have e0 := h0 (hdep 0 (by decide +kernel))
            subst e0
            refine wpOp_step rfl fun Kz hKz => ?_
            go_simp
            exact hKz _ _ ⟨_, _, _, _, _, _, _, _, _, _, rfl, fun e => hA (add_nf e), fun e e2 => hC (add_ne e (by decide)) (add_nf e2), fun e => hD (add_ne e (by decide)), hKp, hz3, fun e => h0 (add_ne e (by decide)), fun _ => rfl, fun e => h2 (add_ne e (by decide)), fun e => h3 (add_ne e (by decide)), fun e => h4 (add_ne e (by decide)), fun e => h5 (add_ne e (by decide)), fun e => h6 (add_ne e (by decide)), fun e => h7 (add_ne e (by decide)), fun e => h8 (add_ne e (by decide)), fun e => h9 (add_ne e (by decide))⟩
          · -- 2
            have e1 := h1 (hdep 1 (by decide +kernel))
            subst e1
            refine wpOp_step rfl fun Kz hKz => ?_
            go_simp
            exact hKz _ _ ⟨_, _, _, _, _, _, _, _, _, _, rfl, fun e => hA (add_nf e), fun e e2 => hC (add_ne e (by decide)) (add_nf e2), fun e => hD (add_ne e (by decide)), hKp, hz3, fun e => h0 (add_ne e (by decide)), fun e => h1 (add_ne e (by decide)), fun _ => rfl, fun e => h3 (add_ne e (by decide)), fun e => h4 (add_ne e (by decide)), fun e => h5 (add_ne e (by decide)), fun e => h6 (add_ne e (by decide)), fun e => h7 (add_ne e (by decide)), fun e => h8 (add_ne e (by decide)), fun e => h9 (add_ne e (by decide))⟩
          · -- 3
            have e2 := h2 (hdep 2 (by decide +kernel))
            subst e2
            refine wpOp_step rfl fun Kz hKz => ?_
            go_simp
            exact hKz _ _ ⟨_, _, _, _, _, _, _, _, _, _, rfl, fun e => hA (add_nf e), fun e e2 => hC (add_ne e (by decide)) (add_nf e2), fun e => hD (add_ne e (by decide)), hKp, hz3, fun e => h0 (add_ne e (by decide)), fun e => h1 (add_ne e (by decide)), fun e => h2 (add_ne e (by decide)), fun _ => rfl, fun e => h4 (add_ne e (by decide)), fun e => h5 (add_ne e (by decide)), fun e => h6 (add_ne e (by decide)), fun e => h7 (add_ne e (by decide)), fun e => h8 (add_ne e (by decide)), fun e => h9 (add_ne e (by decide))⟩
          · -- 4
            refine wpOp_step rfl fun Kz hKz => ?_
            go_simp
            exact hKz _ _ ⟨_, _, _, _, _, _, _, _, _, _, rfl, fun e => hA (add_nf e), fun e e2 => hC (add_ne e (by decide)) (add_nf e2), fun e => hD (add_ne e (by decide)), hKp, hz3, fun e => h0 (add_ne e (by decide)), fun e => h1 (add_ne e (by decide)), fun e => h2 (add_ne e (by decide)), fun e => h3 (add_ne e (by decide)), fun _ => rfl, fun e => h5 (add_ne e (by decide)), fun e => h6 (add_ne e (by decide)), fun e => h7 (add_ne e (by decide)), fun e => h8 (add_ne e (by decide)), fun e => h9 (add_ne e (by decide))⟩
          · -- 5
            refine wpOp_step rfl fun Kz hKz => ?_
            go_simp
            exact hKz _ _ ⟨_, _, _, _, _, _, _, _, _, _, rfl, fun e => hA (add_nf e), fun e e2 => hC (add_ne e (by decide)) (add_nf e2), fun e => hD (add_ne e (by decide)), hKp, hz3, fun e => h0 (add_ne e (by decide)), fun e => h1 (add_ne e (by decide)), fun e => h2 (add_ne e (by decide)), fun e => h3 (add_ne e (by decide)), fun e => h4 (add_ne e (by decide)), fun _ => rfl, fun e => h6 (add_ne e (by decide)), fun e => h7 (add_ne e (by decide)), fun e => h8 (add_ne e (by decide)), fun e => h9 (add_ne e (by decide))⟩
          · -- 6
            refine wpOp_step rfl fun Kz hKz => ?_
            go_simp
            exact hKz _ _ ⟨_, _, _, _, _, _, _, _, _, _, rfl, fun e => hA (add_nf e), fun e e2 => hC (add_ne e (by decide)) (add_nf e2), fun e => hD (add_ne e (by decide)), hKp, hz3, fun e => h0 (add_ne e (by decide)), fun e => h1 (add_ne e (by decide)), fun e => h2 (add_ne e (by decide)), fun e => h3 (add_ne e (by decide)), fun e => h4 (add_ne e (by decide)), fun e => h5 (add_ne e (by decide)), fun _ => rfl, fun e => h7 (add_ne e (by decide)), fun e => h8 (add_ne e (by decide)), fun e => h9 (add_ne e (by decide))⟩
          · -- 7
            have e5 := h5 (hdep 5 (by decide +kernel))
            subst e5
            have e6 := h6 (hdep 6 (by decide +kernel))
            subst e6
            refine wpOp_step rfl fun Kz hKz => ?_
            go_simp
            go_at_call 46
            refine (hP.out _ (hA hni)).mono ?_
            rintro e w1 ⟨rfl, hGq, hKq⟩
            go_simp
            exact hKz _ _ ⟨_, _, _, _, _, _, _, _, _, _, rfl, fun e => (by rw [add_self] at e; cases e), fun _ _ => hGq, fun e => (by have e2 := hcl 8 (hcl 10 (add_ne e (by decide)) 8 (by decide +kernel)) 7 (by decide +kernel); rw [hni] at e2; cases e2), hKp.trans (hKq.mono fun j _ h => .inl h), hGq.c3, fun e => h0 (add_ne e (by decide)), fun e => h1 (add_ne e (by decide)), fun e => h2 (add_ne e (by decide)), fun e => h3 (add_ne e (by decide)), fun e => h4 (add_ne e (by decide)), fun e => h5 (add_ne e (by decide)), fun e => h6 (add_ne e (by decide)), fun _ => rfl, fun e => h8 (add_ne e (by decide)), fun e => h9 (add_ne e (by decide))⟩
          · -- 8
            have e7 := h7 (hdep 7 (by decide +kernel))
            subst e7
            refine wpOp_step rfl fun Kz hKz => ?_
            go_simp
            exact hKz _ _ ⟨_, _, _, _, _, _, _, _, _, _, rfl, fun e => hA (add_nf e), fun e e2 => hC (add_ne e (by decide)) (add_nf e2), fun e => hD (add_ne e (by decide)), hKp, hz3, fun e => h0 (add_ne e (by decide)), fun e => h1 (add_ne e (by decide)), fun e => h2 (add_ne e (by decide)), fun e => h3 (add_ne e (by decide)), fun e => h4 (add_ne e (by decide)), fun e => h5 (add_ne e (by decide)), fun e => h6 (add_ne e (by decide)), fun e => h7 (add_ne e (by decide)), fun _ => rfl, fun e => h9 (add_ne e (by decide))⟩
          · -- 9
            have e3 := h3 (hdep 3 (by decide +kernel))
            subst e3
            have e4 := h4 (hdep 4 (by decide +kernel))
            subst e4
            refine wpOp_step rfl fun Kz hKz => ?_
            go_simp
            exact hKz _ _ ⟨_, _, _, _, _, _, _, _, _, _, rfl, fun e => hA (add_nf e), fun e e2 => hC (add_ne e (by decide)) (add_nf e2), fun e => hD (add_ne e (by decide)), hKp, hz3, fun e => h0 (add_ne e (by decide)), fun e => h1 (add_ne e (by decide)), fun e => h2 (add_ne e (by decide)), fun e => h3 (add_ne e (by decide)), fun e => h4 (add_ne e (by decide)), fun e => h5 (add_ne e (by decide)), fun e => h6 (add_ne e (by decide)), fun e => h7 (add_ne e (by decide)), fun e => h8 (add_ne e (by decide)), fun _ => rfl⟩
          · -- 10
            have hL7 := hcl 8 (hdep 8 (by decide +kernel)) 7 (by decide +kernel)
            have hGq := hC hL7 hni
            have hfz := hGq.fr.free k
            have hcc := hGq.fr.cell (m := k) hkl
            have e7 := h7 hL7
            subst e7
            have e8 := h8 (hdep 8 (by decide +kernel))
            subst e8
            have e9 := h9 (hdep 9 (by decide +kernel))
            subst e9
            refine wpOp_step rfl fun Kz hKz => ?_
            go_simp
            exact hKz _ _ ⟨_, _, _, _, _, _, _, _, _, _, rfl, fun e => (by rw [add_old hL7] at e; cases e), fun _ e => (by rw [add_self] at e; cases e), fun _ => hset.out _ _ hGq, Kp.setCell (F := fun j => ¬ G j ∨ j = gF) hKp (p := ⟨gF, k, none⟩) (.inl (.inr rfl)) _, (hset.out _ _ hGq).c3, fun e => h0 (add_ne e (by decide)), fun e => h1 (add_ne e (by decide)), fun e => h2 (add_ne e (by decide)), fun e => h3 (add_ne e (by decide)), fun e => h4 (add_ne e (by decide)), fun e => h5 (add_ne e (by decide)), fun e => h6 (add_ne e (by decide)), fun e => h7 (add_ne e (by decide)), fun e => h8 (add_ne e (by decide)), fun e => h9 (add_ne e (by decide))⟩
        · intro LL az wz hI hL
          obtain ⟨v8, v9, v10, v11, v12, v13, v14, v15, v16, v17, rfl, hA, hC, hD, hKp, hz3, h0, h1, h2, h3, h4, h5, h6, h7, h8, h9⟩ := hI
          refine hK1 _ _ (Met.intro (hJ1 _ _ ?_))
          (repeat apply Exists.intro)
          refine ⟨?rel, rfl⟩
          case rel => exact ⟨Lib.hid (by have e3 := hD (hL 10 (by decide)); rw [hstep.out] at e3; exact e3), Lib.hid hKp⟩
      case rest =>
        obtain ⟨hG2, hK2⟩ := hcut
        have hS2 : FLS G S gb lb b gL cL gF cF l x L fl w (k + 1) wc := ⟨hG2.out, hT.out.kp.trans hK2.out⟩
        replace hS2 := Lib.hid hS2
        go_wp2_with fail
        go_roundw
        case rel => exact ⟨k + 1, by omega, by go_num, hS2⟩
        case measure => simp [intOf]; omega
    · obtain rfl : k = x.nm := by omega
      have hkz : ¬ (x.nm : Int) < (x.nm : Int) := by omega
      go_wp2_with fail
      go_end0
      exact ⟨rfl, hfin.out _ hS.out, hS.out.kp⟩
end
end Go.Proofs.YtiehbbhjpcnbnaaGreat
