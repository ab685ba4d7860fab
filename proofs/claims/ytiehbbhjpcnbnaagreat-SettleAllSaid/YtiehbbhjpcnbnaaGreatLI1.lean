/- The contracts of Clone and Post. -/
import Derived.Test.YtiehbbhjpcnbnaaGreatLI0
import Derived.Test.YtiehbbhjpcnbnaaGreatMAH
import Derived.Lib.SliceRun
namespace Go.Proofs.YtiehbbhjpcnbnaaGreat
open Go.RowKit
set_option linter.unusedVariables false

def rvs (B : Nat → Nat → Int) (n : Nat) : List Value := (List.range (n * 8)).map fun j => Value.int .i64 (B (j / 8) (j % 8))
theorem rvs_len (B : Nat → Nat → Int) (n : Nat) : (rvs B n).length = n * 8 := by unfold rvs; simp
theorem rvs_get (B : Nat → Nat → Int) {n m c : Nat} (hm : m < n) (hc : c < 8) : (rvs B n)[m * 8 + c]? = some (.int .i64 (B m c)) := by
  unfold rvs
  rw [List.getElem?_map, List.getElem?_range (by omega)]
  have e1 : (m * 8 + c) / 8 = m := by omega
  have e2 : (m * 8 + c) % 8 = c := by omega
  simp only [Option.map_some, e1, e2]
set_option maxRecDepth 100000 in
/-- append([]row{}, rows...): a new row of rows -/
theorem appR8_run (W : World) (s g n c : Nat) (B : Nat → Nat → Int) (hs : W.heap[s]? = some (.cells #[] 77 (0, 0))) (hr : BR W g B n) (h1 : 1 ≤ n) (h8 : n ≤ 1000) :
    ∃ g' c' w', (Builtin.append_ #[80, 80] 80 #[.slice (some ⟨s, 0, none⟩) 0 0, .slice (some ⟨g, 0, none⟩) n c]).run Tryz.prog W = .ok (.slice (some ⟨g', 0, none⟩) n c') w' ∧ BR w' g' B n ∧ s ≤ g' ∧ W.grownBy w' (some s) := by
  obtain ⟨i0, hi, hz0, hz1, hz2⟩ := info_parts Tryz.info59r
  have hown : W.ownsRow s 77 8 (.slice (some ⟨s, 0, none⟩) 0 0) 0 [] := ⟨by simp, .inr ⟨s, 0, #[], rfl, Nat.le_refl _, hs, Nat.le_refl _, by unfold maxLen; omega, by simp, by simp⟩⟩
  obtain ⟨v', w', h2, h3, h4, _⟩ := run_append_own (P := Tryz.prog) W s 80 80 77 i0 _ 8 64 Tryz.underlying80 hi hz0 hz1 hz2 rfl (by decide) (.slice (some ⟨s, 0, none⟩) 0 0) 0 [] hown ⟨g, 0, none⟩ n c (rvs B n) (by rw [rvs_len])
    (fun j u hu => by
      have hj : j < n * 8 := by have := (List.getElem?_eq_some_iff.1 hu).1; rwa [rvs_len] at this
      have e : j = j / 8 * 8 + j % 8 := by omega
      rw [e, rvs_get B (by omega) (by omega)] at hu
      injection hu with hu
      rw [← hu, Go.WideShapes.add_plain, Nat.zero_add]
      have := hr.cell (m := j / 8) (c := j % 8) (by omega) (by omega)
      rwa [← e] at this)
    (fun u hu => by unfold rvs at hu; obtain ⟨x, _, rfl⟩ := List.mem_map.1 hu; rfl) (by unfold maxLen; omega) (by omega) (Nat.le_of_lt (obj_lt hs))
  rw [Nat.zero_add, List.nil_append] at h3
  rcases h3.2 with ⟨_, e0⟩ | ⟨g', cap, cur, rfl, hg, hh, hn, hm, hsz, ht⟩
  · omega
  · refine ⟨g', cap, w', h2, ⟨cur, hh, fun m hm c hc => ?_⟩, hg, h4⟩
    have e : (rvs B n)[m * 8 + c]? = cur[m * 8 + c]? := by rw [← ht, List.getElem?_take, if_pos (by omega), Array.getElem?_toList]
    rw [← e, rvs_get B hm hc]

set_option maxHeartbeats 1000000 in
set_option maxRecDepth 100000 in
theorem cloneL_any (g n c : Nat) (B : Nat → Nat → Int) (w : World) (h : BR w g B n) (h1 : 1 ≤ n) (h8 : n ≤ 1000) :
    Calls Tryz.prog 38 #[.slice (some ⟨g, 0, none⟩) n c] w fun e w' => ∃ g' c', e = .returned (.slice (some ⟨g', 0, none⟩) n c') ∧ BR w' g' B n ∧ w.heap.size ≤ g' ∧ Below w.heap.size w w' := by
  obtain ⟨g', c', w', hrun, hR, hs, hG⟩ := appR8_run (w.alloc (.cells #[] 77)) w.heap.size g n c B (heap_alloc_new w _) (h.at (Below.heap_alloc _ _ _ h.lt)) h1 h8
  have hB : Below w.heap.size w w' := ((Below.refl _ w).alloc (Nat.le_refl _) _).grown hG (by simp) (fun k hk => by injection hk with hk; omega)
  replace hrun := Lib.hid hrun
  replace hR := Lib.hid hR
  replace hG := Lib.hid hG
  replace hB := Lib.hid hB
  have heq : ∀ w, (binOp BinOp.eql 80 (.slice (some ⟨g, 0, none⟩) n c) (.slice none 0 0)).run Tryz.prog w = .ok (.bool false) w := fun w => by
    rw [Lib.run_eql_slice_nil w 80 77 _ _ _ _ _ Tryz.underlying80]; rfl
  go_enter Tryz.func38, Tryz.ntmps38
  go_wp2_with (at_builtin; refine wpList_run rfl (.tmp 5) (.tmp 6) 80 80 rfl _ _ _ _ rfl rfl hrun.out ?_)
  go_ret
  exact ⟨_, _, rfl, hR.out, hs, hB.out⟩

theorem post_unknown {l : LM} {ps : List Pst} (h : l.known ps = false) : l.post ps = (1, l) := by unfold LM.post; rw [h]; rfl
theorem post_uneven {l : LM} {ps : List Pst} (h : l.known ps = true) (h2 : l.even ps = false) : l.post ps = (12, l) := by unfold LM.post; rw [h, h2]; rfl
theorem post_over {l : LM} {ps : List Pst} (h : l.known ps = true) (h2 : l.even ps = true) (h3 : goP l.B ps = none) : l.post ps = (3, l) := by unfold LM.post; rw [h, h2, h3]; rfl
theorem post_done {l : LM} {ps : List Pst} {C : Nat → Nat → Int} (h : l.known ps = true) (h2 : l.even ps = true) (h3 : goP l.B ps = some C) : l.post ps = (0, ⟨l.nm, l.nc, C, l.N⟩) := by unfold LM.post; rw [h, h2, h3]; rfl
theorem goP_step {ps : List Pst} {k : Nat} {q : Pst} (hq : ps[k]? = some q) (C : Nat → Nat → Int) : goP C (ps.drop k) = if In64 (C q.m.toNat q.c.toNat + q.a) then goP (upd2 C q.m.toNat q.c.toNat (C q.m.toNat q.c.toNat + q.a)) (ps.drop (k + 1)) else none := by
  obtain ⟨hk, e⟩ := List.getElem?_eq_some_iff.1 hq
  rw [List.drop_eq_getElem_cons hk, e]
  rfl
/-- what Post tells -/
def PostP (P : Nat → Prop) (b : Nat) (l : LM) (ps : List Pst) (w : World) (e : Ending) (w' : World) : Prop := e = .returned (.int .i64 (l.post ps).1) ∧ PL P w' b (l.post ps).2 ∧ Kp P w w'
/-- Post's first way: all are known so far -/
structure QSt (w : World) (l : LM) (ps : List Pst) (k : Nat) (wr : World) : Prop where
  known : ∀ q ∈ ps.take k, l.has q.m q.c = true
  blw : Below w.heap.size w wr
/-- Post's second way: k postings are done to the copy -/
structure PSt (w : World) (l : LM) (ps : List Pst) (g k : Nat) (C : Nat → Nat → Int) (wr : World) : Prop where
  row : BR wr g C l.nm
  go : goP C (ps.drop k) = goP l.B ps
  ic : ∀ m c, In64 (C m c)
  blw : Below w.heap.size w wr

set_option maxHeartbeats 8000000 in
set_option maxRecDepth 100000 in
theorem post_any (P : Nat → Prop) (b : Nat) (l : LM) (p : Option Addr) (len cap : Nat) (ps : List Pst) (w : World) (h0 : PL P w b l) (hg : l.Good) (hrow : PRow w p len ps) (hlen : len ≤ 30) (hP : ∀ i, w.heap.size ≤ i → P i) :
    Calls Tryz.prog 16 #[.pointer (some ⟨b, 0, none⟩), .slice p len cap] w (PostP P b l ps w) := by
  obtain ⟨gB, cB, h⟩ := h0
  have hpl := hrow.1
  have hS0 : QSt w l ps 0 w := ⟨fun q hq => by simp at hq, Below.refl _ _⟩
  replace hS0 := Lib.hid hS0
  replace h := Lib.hid h
  replace hg := Lib.hid hg
  replace hrow := Lib.hid hrow
  replace hP := Lib.hid hP
  go_enter Tryz.func16, Tryz.ntmps16
  go_upto_region 2 with (fail)
  go_loopw [14] (fun i wr => ∃ k : Nat, k ≤ len ∧ i = .int .i64 (k : Int) ∧ Hid (QSt w l ps k wr)) (fun i _ => len - (intOf i).toNat)
  case atStart => exact ⟨0, by omega, rfl, hS0⟩
  case round =>
    obtain ⟨k, hk, rfl, hS⟩ := hrel
    by_cases hkl : k < len
    · have hkz : (k : Int) < (len : Int) := by omega
      have hT := hS.out
      have hws := hT.blw.size
      obtain ⟨_, hin, hrw⟩ := hrow.out
      obtain ⟨rb, off, rfl, hbs, hcells⟩ := hrw.resolve_left (by omega)
      obtain ⟨q, hq⟩ : ∃ q, ps[k]? = some q := ⟨ps[k], List.getElem?_eq_getElem (by omega)⟩
      obtain ⟨q0, q1, q2⟩ := hcells k q hq
      replace q0 := (hT.blw.cell (p := ⟨rb, off + k * 3, none⟩) hbs).trans q0
      replace q1 := (hT.blw.cell (p := ⟨rb, off + k * 3 + 1, none⟩) hbs).trans q1
      replace q2 := (hT.blw.cell (p := ⟨rb, off + k * 3 + 2, none⟩) hbs).trans q2
      have hbx := heap_alloc_new wr (.cells #[.int .i64 q.m, .int .i64 q.c, .int .i64 q.a] 60)
      have hB1 : Below w.heap.size w (wr.alloc (.cells #[.int .i64 q.m, .int .i64 q.c, .int .i64 q.a] 60)) := hT.blw.alloc hws _
      have cH := hasL_any q.m q.c _ (h.out.below hB1)
      replace hcells := Lib.hid hcells
      replace hin := Lib.hid hin
      replace hrw := Lib.hid hrw
      generalize hv1 : wr.alloc (.cells #[.int .i64 q.m, .int .i64 q.c, .int .i64 q.a] 60) = v1 at *
      have d0 : v1.cell? ⟨wr.heap.size, 0, none⟩ = some (.int .i64 q.m) := obj_cell hbx rfl
      have d1 : v1.cell? ⟨wr.heap.size, 1, none⟩ = some (.int .i64 q.c) := obj_cell hbx rfl
      cases hh : l.has q.m q.c with
      | true =>
        rw [hh] at cH
        have hS1 : QSt w l ps (k + 1) v1 := ⟨fun y hy => by
          rw [List.take_add_one, hq] at hy
          rcases List.mem_append.1 hy with h1 | h1
          · exact hT.known y h1
          · simp at h1; subst h1; exact hh, hB1⟩
        replace hS1 := Lib.hid hS1
        replace hT := Lib.hid hT
        replace hv1 := Lib.hid hv1
        replace hbx := Lib.hid hbx
        replace hB1 := Lib.hid hB1
        replace cH := Lib.hid cH
        replace hh := Lib.hid hh
        go_upto_region 4 with (fail)
        change Code.wp _ _ _ _ (wr.alloc (.cells #[.int .i64 q.m, .int .i64 q.c, .int .i64 q.a] 60))
        rw [hv1.out]
        go_wp2_with fail
        with_reducible refine cH.out.mono ?_
        rintro e w5 ⟨rfl, rfl⟩
        go_wp2_with fail
        go_roundw
        case rel => exact ⟨k + 1, by omega, by go_num, hS1⟩
        case measure => simp [intOf]; omega
      | false =>
        rw [hh] at cH
        have hfin : PostP P b l ps w (.returned (.int .i64 1)) v1 := by
          have e : l.post ps = (1, l) := post_unknown (by
            unfold LM.known
            rw [List.all_eq_false]
            exact ⟨q, List.mem_of_getElem? hq, by rw [hh]; simp⟩)
          refine ⟨by rw [e], by rw [e]; exact ⟨gB, cB, h.out.below hB1⟩, Kp.of_below hB1⟩
        replace hfin := Lib.hid hfin
        replace hT := Lib.hid hT
        replace hv1 := Lib.hid hv1
        replace hbx := Lib.hid hbx
        replace hB1 := Lib.hid hB1
        replace cH := Lib.hid cH
        replace hh := Lib.hid hh
        go_upto_region 4 with (fail)
        change Code.wp _ _ _ _ (wr.alloc (.cells #[.int .i64 q.m, .int .i64 q.c, .int .i64 q.a] 60))
        rw [hv1.out]
        go_wp2_with fail
        with_reducible refine cH.out.mono ?_
        rintro e w5 ⟨rfl, rfl⟩
        go_wp2_with fail
        go_ret
        exact hfin.out
    · obtain rfl : k = len := by omega
      have hkz : ¬ (k : Int) < (k : Int) := by omega
      have hT := hS.out
      have htk : ps.take k = ps := List.take_of_length_le (by omega)
      have hkn : l.known ps = true := List.all_eq_true.2 fun q hq => hT.known q (by rw [htk]; exact hq)
      have hn8 := hg.out.ok.nc
      have cE := even_any p k cap ps wr (hrow.out.kept hT.blw) hlen (fun q hq => by have := LM.has_iff.1 (known_mem hkn q hq); omega)
      rw [even_evenB hn8.2 hkn] at cE
      have hblw := hT.blw
      replace hT := Lib.hid hT
      replace hkn := Lib.hid hkn
      replace hblw := Lib.hid hblw
      cases hev : l.even ps with
      | false =>
        rw [hev] at cE
        replace cE := Lib.hid cE
        have e : l.post ps = (12, l) := post_uneven hkn.out hev
        replace e := Lib.hid e
        replace hev := Lib.hid hev
        go_wp2_with fail
        with_reducible refine cE.out.mono ?_
        rintro e w5 ⟨rfl, hB5⟩
        have hfin : PostP P b l ps w (.returned (.int .i64 12)) w5 := by
          have hB := hblw.out.trans (hB5.mono hblw.out.size)
          refine ⟨by rw [e.out], by rw [e.out]; exact ⟨gB, cB, h.out.below hB⟩, Kp.of_below hB⟩
        replace hfin := Lib.hid hfin
        replace hB5 := Lib.hid hB5
        go_wp2_with fail
        go_ret
        exact hfin.out
      | true =>
        rw [hev] at cE
        replace cE := Lib.hid cE
        replace hev := Lib.hid hev
        go_wp2_with fail
        with_reducible refine cE.out.mono ?_
        rintro e w5 ⟨rfl, hB5⟩
        have hB5' : Below w.heap.size w w5 := hblw.out.trans (hB5.mono hblw.out.size)
        have hL5 := h.out.below hB5'
        have c9 := hL5.c9
        have cC := cloneL_any gB l.nm cB l.B w5 hL5.bal hg.out.ok.nm.1 (by have := hg.out.ok.nm; omega)
        replace cC := Lib.hid cC
        replace hB5 := Lib.hid hB5
        replace hB5' := Lib.hid hB5'
        replace hL5 := Lib.hid hL5
        go_upto_region 9 with (fail)
        go_wp2_with fail
        with_reducible refine cC.out.mono ?_
        rintro e w6 ⟨g', c', rfl, hR6, hg', hB6⟩
        have hB6' : Below w.heap.size w w6 := hB5'.out.trans (hB6.mono hB5'.out.size)
        have hgw : w.heap.size ≤ g' := Nat.le_trans hB5'.out.size hg'
        have hS1 : PSt w l ps g' 0 l.B w6 := ⟨hR6, rfl, hg.out.ok.b, hB6'⟩
        replace hS1 := Lib.hid hS1
        replace hR6 := Lib.hid hR6
        replace hB6 := Lib.hid hB6
        replace hB6' := Lib.hid hB6'
        clear c9
        go_upto_region 11 with (fail)
        go_loopw [36] (fun i wr => ∃ (j : Nat) (C : Nat → Nat → Int), j ≤ k ∧ i = .int .i64 (j : Int) ∧ Hid (PSt w l ps g' j C wr)) (fun i _ => k - (intOf i).toNat)
        case atStart => exact ⟨0, _, by omega, rfl, hS1⟩
        case round =>
          obtain ⟨j, C, hj, rfl, hSp⟩ := hrel
          by_cases hjk : j < k
          · have hkz : (j : Int) < (k : Int) := by omega
            have hT := hSp.out
            have hws := hT.blw.size
            obtain ⟨_, hin, hrw⟩ := hrow.out
            obtain ⟨rb, off, rfl, hbs, hcells⟩ := hrw.resolve_left (by omega)
            obtain ⟨q, hq⟩ : ∃ q, ps[j]? = some q := ⟨ps[j], List.getElem?_eq_getElem (by omega)⟩
            obtain ⟨q0, q1, q2⟩ := hcells j q hq
            replace q0 := (hT.blw.cell (p := ⟨rb, off + j * 3, none⟩) hbs).trans q0
            replace q1 := (hT.blw.cell (p := ⟨rb, off + j * 3 + 1, none⟩) hbs).trans q1
            replace q2 := (hT.blw.cell (p := ⟨rb, off + j * 3 + 2, none⟩) hbs).trans q2
            have hqi := hin q (List.mem_of_getElem? hq)
            obtain ⟨m, c, hqm, hqc, hm, hc⟩ := LM.has_nat (known_mem hkn.out q (List.mem_of_getElem? hq))
            rw [hqm] at q0
            rw [hqc] at q1
            have hstep := goP_step hq C
            rw [hT.go, hqm, hqc, Int.toNat_natCast, Int.toNat_natCast] at hstep
            have hc8 : c < 8 := by omega
            have hmz : (m : Int) < (l.nm : Int) := by omega
            have hcz : (c : Int) < 8 := by omega
            have hx64 := hqi.2.2
            generalize q.a = x at *
            have hp := fun w => rplus_any (C m) (hT.ic m) c hc8 x hx64 w
            have hbx := heap_alloc_new wr (.cells #[.int .i64 (m : Int), .int .i64 (c : Int), .int .i64 x] 60)
            have hB1 : Below w.heap.size w (wr.alloc (.cells #[.int .i64 (m : Int), .int .i64 (c : Int), .int .i64 x] 60)) := hT.blw.alloc hws _
            have hR1 : BR (wr.alloc (.cells #[.int .i64 (m : Int), .int .i64 (c : Int), .int .i64 x] 60)) g' C l.nm := hT.row.at (Below.heap_alloc _ _ _ hT.row.lt)
            have hus : (wr.alloc (.cells #[.int .i64 (m : Int), .int .i64 (c : Int), .int .i64 x] 60)).heap.size = wr.heap.size + 1 := by simp
            have hgl := hT.row.lt
            replace hT := Lib.hid hT
            replace hcells := Lib.hid hcells
            replace hin := Lib.hid hin
            replace hrw := Lib.hid hrw
            replace hqi := Lib.hid hqi
            replace hqm := Lib.hid hqm
            replace hqc := Lib.hid hqc
            replace hq := Lib.hid hq
            replace hstep := Lib.hid hstep
            replace hx64 := Lib.hid hx64
            generalize hv1 : wr.alloc (.cells #[.int .i64 (m : Int), .int .i64 (c : Int), .int .i64 x] 60) = u at *
            generalize hf : plusR (C m) c x = f at *
            generalize hy : fitE (C m c + x) = y at *
            have d0 : u.cell? ⟨wr.heap.size, 0, none⟩ = some (.int .i64 (m : Int)) := obj_cell hbx rfl
            have d1 : u.cell? ⟨wr.heap.size, 1, none⟩ = some (.int .i64 (c : Int)) := obj_cell hbx rfl
            have d2 : u.cell? ⟨wr.heap.size, 2, none⟩ = some (.int .i64 x) := obj_cell hbx rfl
            obtain ⟨y0, y1, y2, y3, y4, y5, y6, y7⟩ := hR1.cells hm
            replace hp := Lib.hid hp
            replace hbx := Lib.hid hbx
            replace hB1 := Lib.hid hB1
            replace hv1 := Lib.hid hv1
            replace hus := Lib.hid hus
            replace hf := Lib.hid hf
            replace hy := Lib.hid hy
            go_upto_region 13 with (fail)
            change Code.wp _ _ _ _ (wr.alloc (.cells #[.int .i64 (m : Int), .int .i64 (c : Int), .int .i64 x] 60))
            rw [hv1.out]
            go_cut [10, 11] from 40 to 53 (fun v10 v11 wc => ∃ p10 : Nat, v10 = .pointer (some ⟨p10, 0, none⟩) ∧ v11 = .int .i64 y ∧ Hid (BX wc p10 f) ∧ Hid (Below u.heap.size u wc) ∧ Hid (u.heap.size ≤ p10))
            case first =>
              have hubl : wr.heap.size < u.heap.size := by rw [hus.out]; omega
              unfold r8 at hp
              replace hp := Lib.hid hp.out
              rename_i J1 K1 hJ1 hK1
              refine wp_region_keeps (by kernel_rfl) (fun L a w => ∃ v10 v11 v40 v41 v42 v43 v44 v45 v46 v47 v48 v49 v50 v51 v52 : Value, a = ({ tmps := (.pointer (some ⟨b, 0, none⟩) :: Value.slice (some { block := rb, off := off }) k cap :: undef :: undef :: u4 :: undef :: u6 :: Value.slice (some { block := g', off := 0 }) l.nm c' :: undef :: .pointer (some ⟨wr.heap.size, 0, none⟩) :: v10 :: v11 :: Value.slice (some { block := rb, off := off }) k cap :: .int .i64 (k : Int) :: .int .i64 (k : Int) :: .bool false :: u16 :: u17 :: u18 :: u19 :: u20 :: u21 :: u22 :: u23 :: u24 :: u25 :: Value.slice (some { block := rb, off := off }) k cap :: .bool true :: .bool false :: .pointer (some ⟨b, 0, none⟩) :: .pointer (some ⟨b, 0, none⟩) :: .pointer (some ⟨b, 9, none⟩) :: Value.slice (some { block := gB, off := 0 }) l.nm cB :: Value.slice (some { block := g', off := 0 }) l.nm c' :: Value.slice (some { block := rb, off := off }) k cap :: .int .i64 (k : Int) :: .int .i64 (j : Int) :: .bool true :: .pointer (some ⟨rb, off + j * 3, none⟩) :: .agg #[.int .i64 (m : Int), .int .i64 (c : Int), .int .i64 x] :: v40 :: v41 :: v42 :: v43 :: v44 :: v45 :: v46 :: v47 :: v48 :: v49 :: v50 :: v51 :: v52 :: u53 :: u54 :: u55 :: u56 :: u57 :: u58 :: u59 :: u60 :: u61 :: undef :: undef :: undef :: undef :: []).toArray, defers := [] } : Act) ∧ Below u.heap.size u w ∧ (L 0 = true → v41 = Value.slice (some { block := g', off := 0 }) l.nm c') ∧ (L 1 = true → v42 = .pointer (some ⟨wr.heap.size, 0, none⟩)) ∧ (L 2 = true → v43 = .int .i64 (m : Int)) ∧ (L 3 = true → v44 = .pointer (some ⟨g', m * 8, none⟩)) ∧ (L 4 = true → v45 = .agg #[.int .i64 (C m 0), .int .i64 (C m 1), .int .i64 (C m 2), .int .i64 (C m 3), .int .i64 (C m 4), .int .i64 (C m 5), .int .i64 (C m 6), .int .i64 (C m 7)]) ∧ (L 5 = true → v46 = .pointer (some ⟨wr.heap.size, 1, none⟩)) ∧ (L 6 = true → v47 = .int .i64 (c : Int)) ∧ (L 7 = true → v48 = .pointer (some ⟨wr.heap.size, 2, none⟩)) ∧ (L 8 = true → v49 = .int .i64 x) ∧ (L 9 = true → v50 = .tuple #[.agg #[.int .i64 (f 0), .int .i64 (f 1), .int .i64 (f 2), .int .i64 (f 3), .int .i64 (f 4), .int .i64 (f 5), .int .i64 (f 6), .int .i64 (f 7)], .int .i64 y]) ∧ (L 10 = true → v40 = .tuple #[.agg #[.int .i64 (f 0), .int .i64 (f 1), .int .i64 (f 2), .int .i64 (f 3), .int .i64 (f 4), .int .i64 (f 5), .int .i64 (f 6), .int .i64 (f 7)], .int .i64 y]) ∧ (L 11 = true → v51 = .agg #[.int .i64 (f 0), .int .i64 (f 1), .int .i64 (f 2), .int .i64 (f 3), .int .i64 (f 4), .int .i64 (f 5), .int .i64 (f 6), .int .i64 (f 7)]) ∧ (L 12 = true → v52 = .int .i64 y) ∧ (L 15 = true → v11 = .int .i64 y) ∧ (L 13 = true → ∃ (q : Nat) (cur : Nat → Int), v10 = .pointer (some ⟨q, 0, none⟩) ∧ u.heap.size ≤ q ∧ BX w q cur ∧ (L 14 = true → ∀ d, d < 8 → cur d = f d)) ∧ (L 14 = true → L 13 = true)) (by kernel_rfl) ?_ ?_ ?_
              · exact ⟨_, _, _, _, _, _, _, _, _, _, _, _, _, _, _, rfl, (Below.refl _ _).drew, nofun, nofun, nofun, nofun, nofun, nofun, nofun, nofun, nofun, nofun, nofun, nofun, nofun, nofun, nofun, nofun⟩
              · intro L a w i hi hni hI hdep
                obtain ⟨v10, v11, v40, v41, v42, v43, v44, v45, v46, v47, v48, v49, v50, v51, v52, rfl, hB, h0, h1, h2, h3, h4, h5, h6, h7, h8, h9, h10, h11, h12, h15, hal, hst⟩ := hI
                have hcase : i = 0 ∨ i = 1 ∨ i = 2 ∨ i = 3 ∨ i = 4 ∨ i = 5 ∨ i = 6 ∨ i = 7 ∨ i = 8 ∨ i = 9 ∨ i = 10 ∨ i = 11 ∨ i = 12 ∨ i = 13 ∨ i = 14 ∨ i = 15 := by
                  have hi2 : i < 16 := hi
                  omega
                rcases hcase with rfl | rfl | rfl | rfl | rfl | rfl | rfl | rfl | rfl | rfl | rfl | rfl | rfl | rfl | rfl | rfl
                · -- 0
                  refine wpOp_step rfl fun K hK => ?_
                  go_simp
                  exact hK _ _ ⟨_, _, _, _, _, _, _, _, _, _, _, _, _, _, _, rfl, hB, fun _ => rfl, fun e => h1 (add_ne e (by decide)), fun e => h2 (add_ne e (by decide)), fun e => h3 (add_ne e (by decide)), fun e => h4 (add_ne e (by decide)), fun e => h5 (add_ne e (by decide)), fun e => h6 (add_ne e (by decide)), fun e => h7 (add_ne e (by decide)), fun e => h8 (add_ne e (by decide)), fun e => h9 (add_ne e (by decide)), fun e => h10 (add_ne e (by decide)), fun e => h11 (add_ne e (by decide)), fun e => h12 (add_ne e (by decide)), fun e => h15 (add_ne e (by decide)), fun e => let ⟨q, cur, e1, e2, hb, e4⟩ := hal (add_ne e (by decide)); ⟨q, cur, e1, e2, hb, fun e => e4 (add_ne e (by decide))⟩, fun e => add_old (hst (add_ne e (by decide)))⟩
                · -- 1
                  refine wpOp_step rfl fun K hK => ?_
                  go_simp
                  exact hK _ _ ⟨_, _, _, _, _, _, _, _, _, _, _, _, _, _, _, rfl, hB, fun e => h0 (add_ne e (by decide)), fun _ => rfl, fun e => h2 (add_ne e (by decide)), fun e => h3 (add_ne e (by decide)), fun e => h4 (add_ne e (by decide)), fun e => h5 (add_ne e (by decide)), fun e => h6 (add_ne e (by decide)), fun e => h7 (add_ne e (by decide)), fun e => h8 (add_ne e (by decide)), fun e => h9 (add_ne e (by decide)), fun e => h10 (add_ne e (by decide)), fun e => h11 (add_ne e (by decide)), fun e => h12 (add_ne e (by decide)), fun e => h15 (add_ne e (by decide)), fun e => let ⟨q, cur, e1, e2, hb, e4⟩ := hal (add_ne e (by decide)); ⟨q, cur, e1, e2, hb, fun e => e4 (add_ne e (by decide))⟩, fun e => add_old (hst (add_ne e (by decide)))⟩
                · -- 2
                  have e1 := h1 (hdep 1 (by decide +kernel))
                  subst e1
                  have z := (hB.cell (p := ⟨wr.heap.size, 0, none⟩) hubl).trans d0
                  refine wpOp_step rfl fun K hK => ?_
                  go_simp
                  exact hK _ _ ⟨_, _, _, _, _, _, _, _, _, _, _, _, _, _, _, rfl, hB, fun e => h0 (add_ne e (by decide)), fun e => h1 (add_ne e (by decide)), fun _ => rfl, fun e => h3 (add_ne e (by decide)), fun e => h4 (add_ne e (by decide)), fun e => h5 (add_ne e (by decide)), fun e => h6 (add_ne e (by decide)), fun e => h7 (add_ne e (by decide)), fun e => h8 (add_ne e (by decide)), fun e => h9 (add_ne e (by decide)), fun e => h10 (add_ne e (by decide)), fun e => h11 (add_ne e (by decide)), fun e => h12 (add_ne e (by decide)), fun e => h15 (add_ne e (by decide)), fun e => let ⟨q, cur, e1, e2, hb, e4⟩ := hal (add_ne e (by decide)); ⟨q, cur, e1, e2, hb, fun e => e4 (add_ne e (by decide))⟩, fun e => add_old (hst (add_ne e (by decide)))⟩
                · -- 3
                  have e0 := h0 (hdep 0 (by decide +kernel))
                  subst e0
                  have e2 := h2 (hdep 2 (by decide +kernel))
                  subst e2
                  refine wpOp_step rfl fun K hK => ?_
                  go_simp
                  exact hK _ _ ⟨_, _, _, _, _, _, _, _, _, _, _, _, _, _, _, rfl, hB, fun e => h0 (add_ne e (by decide)), fun e => h1 (add_ne e (by decide)), fun e => h2 (add_ne e (by decide)), fun _ => rfl, fun e => h4 (add_ne e (by decide)), fun e => h5 (add_ne e (by decide)), fun e => h6 (add_ne e (by decide)), fun e => h7 (add_ne e (by decide)), fun e => h8 (add_ne e (by decide)), fun e => h9 (add_ne e (by decide)), fun e => h10 (add_ne e (by decide)), fun e => h11 (add_ne e (by decide)), fun e => h12 (add_ne e (by decide)), fun e => h15 (add_ne e (by decide)), fun e => let ⟨q, cur, e1, e2, hb, e4⟩ := hal (add_ne e (by decide)); ⟨q, cur, e1, e2, hb, fun e => e4 (add_ne e (by decide))⟩, fun e => add_old (hst (add_ne e (by decide)))⟩
                · -- 4
                  have e3 := h3 (hdep 3 (by decide +kernel))
                  subst e3
                  obtain ⟨z0, z1, z2, z3, z4, z5, z6, z7⟩ := (hR1.at (hB.block _ hR1.lt)).cells hm
                  refine wpOp_step rfl fun K hK => ?_
                  go_simp
                  exact hK _ _ ⟨_, _, _, _, _, _, _, _, _, _, _, _, _, _, _, rfl, hB, fun e => h0 (add_ne e (by decide)), fun e => h1 (add_ne e (by decide)), fun e => h2 (add_ne e (by decide)), fun e => h3 (add_ne e (by decide)), fun _ => rfl, fun e => h5 (add_ne e (by decide)), fun e => h6 (add_ne e (by decide)), fun e => h7 (add_ne e (by decide)), fun e => h8 (add_ne e (by decide)), fun e => h9 (add_ne e (by decide)), fun e => h10 (add_ne e (by decide)), fun e => h11 (add_ne e (by decide)), fun e => h12 (add_ne e (by decide)), fun e => h15 (add_ne e (by decide)), fun e => let ⟨q, cur, e1, e2, hb, e4⟩ := hal (add_ne e (by decide)); ⟨q, cur, e1, e2, hb, fun e => e4 (add_ne e (by decide))⟩, fun e => add_old (hst (add_ne e (by decide)))⟩
                · -- 5
                  refine wpOp_step rfl fun K hK => ?_
                  go_simp
                  exact hK _ _ ⟨_, _, _, _, _, _, _, _, _, _, _, _, _, _, _, rfl, hB, fun e => h0 (add_ne e (by decide)), fun e => h1 (add_ne e (by decide)), fun e => h2 (add_ne e (by decide)), fun e => h3 (add_ne e (by decide)), fun e => h4 (add_ne e (by decide)), fun _ => rfl, fun e => h6 (add_ne e (by decide)), fun e => h7 (add_ne e (by decide)), fun e => h8 (add_ne e (by decide)), fun e => h9 (add_ne e (by decide)), fun e => h10 (add_ne e (by decide)), fun e => h11 (add_ne e (by decide)), fun e => h12 (add_ne e (by decide)), fun e => h15 (add_ne e (by decide)), fun e => let ⟨q, cur, e1, e2, hb, e4⟩ := hal (add_ne e (by decide)); ⟨q, cur, e1, e2, hb, fun e => e4 (add_ne e (by decide))⟩, fun e => add_old (hst (add_ne e (by decide)))⟩
                · -- 6
                  have e5 := h5 (hdep 5 (by decide +kernel))
                  subst e5
                  have z := (hB.cell (p := ⟨wr.heap.size, 1, none⟩) hubl).trans d1
                  refine wpOp_step rfl fun K hK => ?_
                  go_simp
                  exact hK _ _ ⟨_, _, _, _, _, _, _, _, _, _, _, _, _, _, _, rfl, hB, fun e => h0 (add_ne e (by decide)), fun e => h1 (add_ne e (by decide)), fun e => h2 (add_ne e (by decide)), fun e => h3 (add_ne e (by decide)), fun e => h4 (add_ne e (by decide)), fun e => h5 (add_ne e (by decide)), fun _ => rfl, fun e => h7 (add_ne e (by decide)), fun e => h8 (add_ne e (by decide)), fun e => h9 (add_ne e (by decide)), fun e => h10 (add_ne e (by decide)), fun e => h11 (add_ne e (by decide)), fun e => h12 (add_ne e (by decide)), fun e => h15 (add_ne e (by decide)), fun e => let ⟨q, cur, e1, e2, hb, e4⟩ := hal (add_ne e (by decide)); ⟨q, cur, e1, e2, hb, fun e => e4 (add_ne e (by decide))⟩, fun e => add_old (hst (add_ne e (by decide)))⟩
                · -- 7
                  refine wpOp_step rfl fun K hK => ?_
                  go_simp
                  exact hK _ _ ⟨_, _, _, _, _, _, _, _, _, _, _, _, _, _, _, rfl, hB, fun e => h0 (add_ne e (by decide)), fun e => h1 (add_ne e (by decide)), fun e => h2 (add_ne e (by decide)), fun e => h3 (add_ne e (by decide)), fun e => h4 (add_ne e (by decide)), fun e => h5 (add_ne e (by decide)), fun e => h6 (add_ne e (by decide)), fun _ => rfl, fun e => h8 (add_ne e (by decide)), fun e => h9 (add_ne e (by decide)), fun e => h10 (add_ne e (by decide)), fun e => h11 (add_ne e (by decide)), fun e => h12 (add_ne e (by decide)), fun e => h15 (add_ne e (by decide)), fun e => let ⟨q, cur, e1, e2, hb, e4⟩ := hal (add_ne e (by decide)); ⟨q, cur, e1, e2, hb, fun e => e4 (add_ne e (by decide))⟩, fun e => add_old (hst (add_ne e (by decide)))⟩
                · -- 8
                  have e7 := h7 (hdep 7 (by decide +kernel))
                  subst e7
                  have z := (hB.cell (p := ⟨wr.heap.size, 2, none⟩) hubl).trans d2
                  refine wpOp_step rfl fun K hK => ?_
                  go_simp
                  exact hK _ _ ⟨_, _, _, _, _, _, _, _, _, _, _, _, _, _, _, rfl, hB, fun e => h0 (add_ne e (by decide)), fun e => h1 (add_ne e (by decide)), fun e => h2 (add_ne e (by decide)), fun e => h3 (add_ne e (by decide)), fun e => h4 (add_ne e (by decide)), fun e => h5 (add_ne e (by decide)), fun e => h6 (add_ne e (by decide)), fun e => h7 (add_ne e (by decide)), fun _ => rfl, fun e => h9 (add_ne e (by decide)), fun e => h10 (add_ne e (by decide)), fun e => h11 (add_ne e (by decide)), fun e => h12 (add_ne e (by decide)), fun e => h15 (add_ne e (by decide)), fun e => let ⟨q, cur, e1, e2, hb, e4⟩ := hal (add_ne e (by decide)); ⟨q, cur, e1, e2, hb, fun e => e4 (add_ne e (by decide))⟩, fun e => add_old (hst (add_ne e (by decide)))⟩
                · -- 9
                  have e4 := h4 (hdep 4 (by decide +kernel))
                  subst e4
                  have e6 := h6 (hdep 6 (by decide +kernel))
                  subst e6
                  have e8 := h8 (hdep 8 (by decide +kernel))
                  subst e8
                  refine wpOp_step rfl fun K hK => ?_
                  go_simp
                  go_at_call 39
                  refine (hp.out w).mono ?_
                  rintro e w1 ⟨rfl, hb1⟩
                  go_simp
                  exact hK _ _ ⟨_, _, _, _, _, _, _, _, _, _, _, _, _, _, _, rfl, hB.trans (hb1.mono hB.size), fun e => h0 (add_ne e (by decide)), fun e => h1 (add_ne e (by decide)), fun e => h2 (add_ne e (by decide)), fun e => h3 (add_ne e (by decide)), fun e => h4 (add_ne e (by decide)), fun e => h5 (add_ne e (by decide)), fun e => h6 (add_ne e (by decide)), fun e => h7 (add_ne e (by decide)), fun e => h8 (add_ne e (by decide)), fun _ => rfl, fun e => h10 (add_ne e (by decide)), fun e => h11 (add_ne e (by decide)), fun e => h12 (add_ne e (by decide)), fun e => h15 (add_ne e (by decide)), fun e => let ⟨q, cur, e1, e2, hb, e4⟩ := hal (add_ne e (by decide)); ⟨q, cur, e1, e2, hb.at (hb1.block _ (obj_lt hb)), fun e => e4 (add_ne e (by decide))⟩, fun e => add_old (hst (add_ne e (by decide)))⟩
                · -- 10
                  have e9 := h9 (hdep 9 (by decide +kernel))
                  subst e9
                  refine wpOp_step rfl fun K hK => ?_
                  go_simp
                  exact hK _ _ ⟨_, _, _, _, _, _, _, _, _, _, _, _, _, _, _, rfl, hB, fun e => h0 (add_ne e (by decide)), fun e => h1 (add_ne e (by decide)), fun e => h2 (add_ne e (by decide)), fun e => h3 (add_ne e (by decide)), fun e => h4 (add_ne e (by decide)), fun e => h5 (add_ne e (by decide)), fun e => h6 (add_ne e (by decide)), fun e => h7 (add_ne e (by decide)), fun e => h8 (add_ne e (by decide)), fun e => h9 (add_ne e (by decide)), fun _ => rfl, fun e => h11 (add_ne e (by decide)), fun e => h12 (add_ne e (by decide)), fun e => h15 (add_ne e (by decide)), fun e => let ⟨q, cur, e1, e2, hb, e4⟩ := hal (add_ne e (by decide)); ⟨q, cur, e1, e2, hb, fun e => e4 (add_ne e (by decide))⟩, fun e => add_old (hst (add_ne e (by decide)))⟩
                · -- 11
                  have e10 := h10 (hdep 10 (by decide +kernel))
                  subst e10
                  refine wpOp_step rfl fun K hK => ?_
                  go_simp
                  exact hK _ _ ⟨_, _, _, _, _, _, _, _, _, _, _, _, _, _, _, rfl, hB, fun e => h0 (add_ne e (by decide)), fun e => h1 (add_ne e (by decide)), fun e => h2 (add_ne e (by decide)), fun e => h3 (add_ne e (by decide)), fun e => h4 (add_ne e (by decide)), fun e => h5 (add_ne e (by decide)), fun e => h6 (add_ne e (by decide)), fun e => h7 (add_ne e (by decide)), fun e => h8 (add_ne e (by decide)), fun e => h9 (add_ne e (by decide)), fun e => h10 (add_ne e (by decide)), fun _ => rfl, fun e => h12 (add_ne e (by decide)), fun e => h15 (add_ne e (by decide)), fun e => let ⟨q, cur, e1, e2, hb, e4⟩ := hal (add_ne e (by decide)); ⟨q, cur, e1, e2, hb, fun e => e4 (add_ne e (by decide))⟩, fun e => add_old (hst (add_ne e (by decide)))⟩
                · -- 12
                  have e10 := h10 (hdep 10 (by decide +kernel))
                  subst e10
                  refine wpOp_step rfl fun K hK => ?_
                  go_simp
                  exact hK _ _ ⟨_, _, _, _, _, _, _, _, _, _, _, _, _, _, _, rfl, hB, fun e => h0 (add_ne e (by decide)), fun e => h1 (add_ne e (by decide)), fun e => h2 (add_ne e (by decide)), fun e => h3 (add_ne e (by decide)), fun e => h4 (add_ne e (by decide)), fun e => h5 (add_ne e (by decide)), fun e => h6 (add_ne e (by decide)), fun e => h7 (add_ne e (by decide)), fun e => h8 (add_ne e (by decide)), fun e => h9 (add_ne e (by decide)), fun e => h10 (add_ne e (by decide)), fun e => h11 (add_ne e (by decide)), fun _ => rfl, fun e => h15 (add_ne e (by decide)), fun e => let ⟨q, cur, e1, e2, hb, e4⟩ := hal (add_ne e (by decide)); ⟨q, cur, e1, e2, hb, fun e => e4 (add_ne e (by decide))⟩, fun e => add_old (hst (add_ne e (by decide)))⟩
                · -- 13
                  refine wpOp_step rfl fun K hK => ?_
                  go_simp
                  exact hK _ _ ⟨_, _, _, _, _, _, _, _, _, _, _, _, _, _, _, rfl, hB.alloc hB.size _, fun e => h0 (add_ne e (by decide)), fun e => h1 (add_ne e (by decide)), fun e => h2 (add_ne e (by decide)), fun e => h3 (add_ne e (by decide)), fun e => h4 (add_ne e (by decide)), fun e => h5 (add_ne e (by decide)), fun e => h6 (add_ne e (by decide)), fun e => h7 (add_ne e (by decide)), fun e => h8 (add_ne e (by decide)), fun e => h9 (add_ne e (by decide)), fun e => h10 (add_ne e (by decide)), fun e => h11 (add_ne e (by decide)), fun e => h12 (add_ne e (by decide)), fun e => h15 (add_ne e (by decide)), fun _ => ⟨_, fun _ => 0, rfl, hB.size, BX.made w fun _ => 0, fun e => by have := hst (add_ne e (by decide)); rw [hni] at this; cases this⟩, fun e => add_old (hst (add_ne e (by decide))) ⟩
                · -- 14
                  have e11 := h11 (hdep 11 (by decide +kernel))
                  subst e11
                  obtain ⟨q, cur, eq, hq, hbq, _⟩ := hal (hdep 13 (by decide +kernel))
                  subst eq
                  obtain ⟨z0, z1, z2, z3, z4, z5, z6, z7⟩ := hbq.cells
                  have zf := obj_free hbq
                  refine wpOp_step rfl fun K hK => ?_
                  go_simp
                  exact hK _ _ ⟨_, _, _, _, _, _, _, _, _, _, _, _, _, _, _, rfl, below_st8 hB hq 0 f, fun e => h0 (add_ne e (by decide)), fun e => h1 (add_ne e (by decide)), fun e => h2 (add_ne e (by decide)), fun e => h3 (add_ne e (by decide)), fun e => h4 (add_ne e (by decide)), fun e => h5 (add_ne e (by decide)), fun e => h6 (add_ne e (by decide)), fun e => h7 (add_ne e (by decide)), fun e => h8 (add_ne e (by decide)), fun e => h9 (add_ne e (by decide)), fun e => h10 (add_ne e (by decide)), fun e => h11 (add_ne e (by decide)), fun e => h12 (add_ne e (by decide)), fun e => h15 (add_ne e (by decide)), fun _ => ⟨q, f, rfl, hq, hbq.set f, fun _ _ _ => rfl⟩, fun _ => add_old (hdep 13 (by decide +kernel))⟩
                · -- 15
                  have e12 := h12 (hdep 12 (by decide +kernel))
                  subst e12
                  refine wpOp_step rfl fun K hK => ?_
                  go_simp
                  exact hK _ _ ⟨_, _, _, _, _, _, _, _, _, _, _, _, _, _, _, rfl, hB, fun e => h0 (add_ne e (by decide)), fun e => h1 (add_ne e (by decide)), fun e => h2 (add_ne e (by decide)), fun e => h3 (add_ne e (by decide)), fun e => h4 (add_ne e (by decide)), fun e => h5 (add_ne e (by decide)), fun e => h6 (add_ne e (by decide)), fun e => h7 (add_ne e (by decide)), fun e => h8 (add_ne e (by decide)), fun e => h9 (add_ne e (by decide)), fun e => h10 (add_ne e (by decide)), fun e => h11 (add_ne e (by decide)), fun e => h12 (add_ne e (by decide)), fun _ => rfl, fun e => let ⟨q, cur, e1, e2, hb, e4⟩ := hal (add_ne e (by decide)); ⟨q, cur, e1, e2, hb, fun e => e4 (add_ne e (by decide))⟩, fun e => add_old (hst (add_ne e (by decide)))⟩
              · intro L a w hI hL
                obtain ⟨v10, v11, v40, v41, v42, v43, v44, v45, v46, v47, v48, v49, v50, v51, v52, rfl, hB, h0, h1, h2, h3, h4, h5, h6, h7, h8, h9, h10, h11, h12, h15, hal, hst⟩ := hI
                obtain ⟨q, cur, eq, hq, hbq, hcur⟩ := hal (hL 13 (by decide))
                have ey := h15 (hL 15 (by decide))
                subst eq; subst ey
                have hbf : BX w q f := by rw [BX, ← r8_ext (hcur (hL 14 (by decide)))]; exact hbq
                refine hK1 _ _ (Met.intro (hJ1 _ _ ?_))
                (repeat apply Exists.intro)
                refine ⟨?rel, rfl⟩
                case rel => exact ⟨_, rfl, rfl, hbf, hB, hq⟩
            case rest =>
              obtain ⟨p10, rfl, rfl, hbx10, hBc, hp10⟩ := hcut
              clear y0 y1 y2 y3 y4 y5 y6 y7 d0 d1 d2
              have hRc : BR wc g' C l.nm := hR1.at (hBc.out.block _ hR1.lt)
              have hBcw : Below w.heap.size w wc := hB1.out.trans (hBc.out.mono hB1.out.size)
              have e0 : wc.cell? ⟨wr.heap.size, 0, none⟩ = some (.int .i64 (m : Int)) := obj_cell ((hBc.out.block _ (by rw [hus.out]; omega)).trans hbx.out) rfl
              by_cases hI : In64 (C m c + x)
              · have hy0 : y = 0 := by rw [← hy.out]; exact (fitE_in hI).2
                have hfu : f = upd (C m) c (C m c + x) := by rw [← hf.out]; exact if_pos hI
                subst hy0
                obtain ⟨x0, x1, x2, x3, x4, x5, x6, x7⟩ := hbx10.out.cells
                obtain ⟨y0, y1, y2, y3, y4, y5, y6, y7⟩ := hRc.cells hm
                have zg := hRc.free
                have hS2 : PSt w l ps g' (j + 1) (upd2 C m c (C m c + x)) (st8 wc g' (m * 8) f) := by
                  refine ⟨?_, ?_, fun a d => ?_, below_st8 hBcw hgw _ _⟩
                  · rw [← updR_upd, ← hfu]; exact hRc.set hm f
                  · have := hstep.out; rw [if_pos hI] at this; exact this.symm
                  · unfold upd2
                    split
                    · exact hI
                    · exact hT.out.ic a d
                generalize hv2 : st8 wc g' (m * 8) f = v2 at *
                replace hv2 := Lib.hid hv2
                replace hS2 := Lib.hid hS2
                replace hRc := Lib.hid hRc
                replace hBcw := Lib.hid hBcw
                replace hI := Lib.hid hI
                replace hfu := Lib.hid hfu
                go_upto_region 17 with (fail)
                change Code.wp _ _ _ _ (st8 wc g' (m * 8) f)
                rw [hv2.out]
                go_wp2_with fail
                go_roundw
                case rel => exact ⟨j + 1, _, by omega, by go_num, hS2⟩
                case measure => simp [intOf]; omega
              · have hy0 : y = 3 := by rw [← hy.out]; exact fitE_out hI
                subst hy0
                have hfin : PostP P b l ps w (.returned (.int .i64 3)) wc := by
                  have e : l.post ps = (3, l) := post_over hkn.out hev.out (by have := hstep.out; rw [if_neg hI] at this; exact this)
                  refine ⟨by rw [e], by rw [e]; exact ⟨gB, cB, h.out.below hBcw⟩, Kp.of_below hBcw⟩
                replace hfin := Lib.hid hfin
                replace hBcw := Lib.hid hBcw
                replace hRc := Lib.hid hRc
                replace hI := Lib.hid hI
                go_wp2_with fail
                go_ret
                exact hfin.out
          · obtain rfl : j = k := by omega
            have hkz : ¬ (j : Int) < (j : Int) := by omega
            have hT := hSp.out
            have hgo := hT.go
            rw [List.drop_of_length_le (by omega)] at hgo
            have hL := h.out.below hT.blw
            have c9 := hL.c9
            have z9 := obj_free hL.obj
            have hLn : PLv P (wr.setCell ⟨b, 9, none⟩ (.slice (some ⟨g', 0, none⟩) l.nm c')) b ⟨l.nm, l.nc, C, l.N⟩ g' c' := by
              refine ⟨obj_set hL.obj 9 _, hT.row.at (obj_other _ ?_), hL.nm, hL.nc, hL.own.1, hP.out _ hgw⟩
              rintro rfl
              obtain ⟨cs, h2, _⟩ := hT.row
              rw [hL.obj] at h2
              simp at h2
            have hfin : PostP P b l ps w (.returned (.int .i64 0)) (wr.setCell ⟨b, 9, none⟩ (.slice (some ⟨g', 0, none⟩) l.nm c')) := by
              have e : l.post ps = (0, ⟨l.nm, l.nc, C, l.N⟩) := post_done hkn.out hev.out (by rw [← hgo]; rfl)
              refine ⟨by rw [e], by rw [e]; exact ⟨_, _, hLn⟩, (Kp.of_below hT.blw).setCell (.inl hL.own.1) _⟩
            replace hfin := Lib.hid hfin
            replace hLn := Lib.hid hLn
            replace hL := Lib.hid hL
            replace hT := Lib.hid hT
            replace hgo := Lib.hid hgo
            go_wp2_with fail
            go_ret
            exact hfin.out
end Go.Proofs.YtiehbbhjpcnbnaaGreat
