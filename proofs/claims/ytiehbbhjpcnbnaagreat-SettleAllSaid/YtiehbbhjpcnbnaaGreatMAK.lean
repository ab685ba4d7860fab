/- The contracts of worth's inCurrencies, post and If.
  The contract of worth's If.
  The contracts of the reference's eight, Text. -/
import Derived.Test.YtiehbbhjpcnbnaaGreatWE
import Derived.Test.YtiehbbhjpcnbnaaGreatMAE
import Derived.Test.YtiehbbhjpcnbnaaGreatMAF
import Derived.StillTailTactics
namespace Go.Proofs.YtiehbbhjpcnbnaaGreat
open Go.RowKit
set_option linter.unusedVariables false

/-- inCurrencies' way -/
structure KSt (w : World) (nc : Nat) (ps : List Pst) (k : Nat) (wr : World) : Prop where
  known : ∀ q ∈ ps.take k, 0 ≤ q.c ∧ q.c < nc
  blw : Below w.heap.size w wr
theorem KSt.next {w wr wr' : World} {nc k : Nat} {ps : List Pst} {q : Pst} (h : KSt w nc ps k wr) (hq : ps[k]? = some q) (hc : 0 ≤ q.c ∧ q.c < nc) (hb : Below w.heap.size w wr') : KSt w nc ps (k + 1) wr' := by
  refine ⟨fun y hy => ?_, hb⟩
  rw [List.take_add_one, hq] at hy
  rcases List.mem_append.1 hy with hy | hy
  · exact h.known y hy
  · obtain rfl := List.mem_singleton.1 hy; exact hc

set_option maxHeartbeats 4000000 in
set_option maxRecDepth 100000 in
theorem inCur_any {P : Nat → Prop} {b lb gT cT gM cM : Nat} {x : WM} {V : Nat → SV} (p : Option Addr) (len cap : Nat) (ps : List Pst) (w : World) (h : WPv P w b lb x V gT cT gM cM) (hrow : PRow w p len ps) (hlen : len ≤ 1000) :
    Calls Tryz.prog 96 #[.pointer (some ⟨b, 0, none⟩), .slice p len cap] w fun e w' => e = .returned (.bool (knownC x.cs.length ps)) ∧ Below w.heap.size w w' := by
  have hpl := hrow.1
  have c0 := h.c0
  have hbl := obj_lt h.obj
  have h8 := h.n8
  have hS0 : KSt w x.cs.length ps 0 w := ⟨fun q hq => by simp at hq, Below.refl _ _⟩
  replace hS0 := Lib.hid hS0
  replace h := Lib.hid h
  replace hrow := Lib.hid hrow
  go_enter Tryz.func96, Tryz.ntmps96
  go_upto_region 2 with (fail)
  go_loopw [9] (fun i wr => ∃ k : Nat, k ≤ len ∧ i = .int .i64 (k : Int) ∧ Hid (KSt w x.cs.length ps k wr)) (fun i _ => len - (intOf i).toNat)
  case atStart => exact ⟨0, by omega, rfl, hS0⟩
  case round =>
    obtain ⟨k, hk, rfl, hS⟩ := hrel
    by_cases hkl : k < len
    · have hkz : (k : Int) < (len : Int) := by omega
      have hT := hS.out
      have hws := hT.blw.size
      obtain ⟨_, hin, hrw⟩ := hrow.out
      obtain ⟨rb, off, rfl, hbs, hcells⟩ := hrw.resolve_left (by omega)
      obtain ⟨y, hq⟩ : ∃ y, ps[k]? = some y := ⟨ps[k], List.getElem?_eq_getElem (by omega)⟩
      obtain ⟨q0, q1, q2⟩ := hcells k y hq
      replace q0 := (hT.blw.cell (p := ⟨rb, off + k * 3, none⟩) hbs).trans q0
      replace q1 := (hT.blw.cell (p := ⟨rb, off + k * 3 + 1, none⟩) hbs).trans q1
      replace q2 := (hT.blw.cell (p := ⟨rb, off + k * 3 + 2, none⟩) hbs).trans q2
      have hbx := heap_alloc_new wr (.cells #[.int .i64 y.m, .int .i64 y.c, .int .i64 y.a] 60)
      have hB1 : Below w.heap.size w (wr.alloc (.cells #[.int .i64 y.m, .int .i64 y.c, .int .i64 y.a] 60)) := hT.blw.alloc hws _
      replace hcells := Lib.hid hcells
      replace hin := Lib.hid hin
      replace hrw := Lib.hid hrw
      replace hT := Lib.hid hT
      replace hq := Lib.hid hq
      generalize hv1 : wr.alloc (.cells #[.int .i64 y.m, .int .i64 y.c, .int .i64 y.a] 60) = v1 at *
      have d1 : v1.cell? ⟨wr.heap.size, 1, none⟩ = some (.int .i64 y.c) := obj_cell hbx rfl
      have hb0 : v1.cell? ⟨b, 0, none⟩ = some (.slice (some ⟨gT, 0, none⟩) x.cs.length cT) := (hB1.cell (p := ⟨b, 0, none⟩) hbl).trans c0
      replace hbx := Lib.hid hbx
      replace hv1 := Lib.hid hv1
      replace hB1 := Lib.hid hB1
      go_upto_region 4 with (fail)
      change Code.wp _ _ _ _ (wr.alloc (.cells #[.int .i64 y.m, .int .i64 y.c, .int .i64 y.a] 60))
      rw [hv1.out]
      clear q0 q1 q2
      by_cases hneg : y.c < 0
      · have hd : decide (y.c < 0) = true := by simpa using hneg
        go_quiet (fail)
        go_wp2_with fail
        go_ret
        exact ⟨retL_bool (known_no (List.mem_of_getElem? hq.out) (by omega)).symm, below_drewN hB1.out _⟩
      · have hd : decide (y.c < 0) = false := by simpa using hneg
        by_cases hge : (x.cs.length : Int) ≤ y.c
        · have hd2 : decide (y.c ≥ (x.cs.length : Int)) = true := by simpa using hge
          go_quiet (fail)
          go_wp2_with fail
          go_ret
          exact ⟨retL_bool (known_no (List.mem_of_getElem? hq.out) (by omega)).symm, below_drewN hB1.out _⟩
        · have hd2 : decide (y.c ≥ (x.cs.length : Int)) = false := by simpa using hge
          have hnx := fun n => hT.out.next hq.out (show 0 ≤ y.c ∧ y.c < x.cs.length by omega) (below_drewN hB1.out n)
          replace hnx := Lib.hid hnx
          go_quiet (fail)
          go_wp2_with fail
          go_roundw
          case rel => exact ⟨k + 1, by omega, by go_num, hnx.out _⟩
          case measure => simp [intOf]; omega
    · obtain rfl : k = len := by omega
      have hkz : ¬ (k : Int) < (k : Int) := by omega
      have hT := hS.out
      have hk2 : ∀ q ∈ ps, 0 ≤ q.c ∧ q.c < x.cs.length := fun q hq => hT.known q (by rw [List.take_of_length_le (by omega)]; exact hq)
      replace hk2 := Lib.hid hk2
      replace hT := Lib.hid hT
      go_wp2_with fail
      go_ret
      exact ⟨retL_bool (known_yes hk2.out).symm, hT.out.blw⟩

set_option maxHeartbeats 1000000 in
theorem post1_any (p : Nat) (f : Nat → Int) (n s : Int × Int) (c : Nat) (a : Int) (w : World) (h : B12 w p f n s) (hc : c < 8) (hf : In64 (f c)) (ha : In64 a) :
    Calls Tryz.prog 97 #[.pointer (some ⟨p, 0, none⟩), .int .i64 (c : Int), .int .i64 a] w fun e w' => e = .returned (.int .i64 (fitE (f c + a))) ∧ B12 w' p (if In64 (f c + a) then upd f c (f c + a) else f) n s ∧ Kp (fun j => j = p) w w' := by
  have hA := add_any (f c) a w hf.1 hf.2 ha.1 ha.2
  have hx : w.cell? ⟨p, c, none⟩ = some (.int .i64 (f c)) := obj_cell h (s12_get f n s hc)
  have hcz : (c : Int) < 8 := by omega
  have hl := obj_lt h
  by_cases hI : In64 (f c + a)
  · rw [(fitE_in hI).1, (fitE_in hI).2] at hA
    rw [if_pos hI, (fitE_in hI).2]
    generalize f c + a = y at *
    replace hA := Lib.hid hA
    replace h := Lib.hid h
    replace hI := Lib.hid hI
    replace hf := Lib.hid hf
    go_enter Tryz.func97, Tryz.ntmps97
    go_upto_region 3 with (first | (go_at_call 61; (with_reducible refine hA.out.mono ?_); rintro e w1 ⟨rfl, hb1⟩))
    have h1 : B12 w1 p f n s := (hb1.block _ hl).trans h.out
    have x1 : w1.cell? ⟨p, c, none⟩ = some (.int .i64 (f c)) := obj_cell h1 (s12_get f n s hc)
    have hz := obj_free h1
    have h2 : B12 (w1.setCell ⟨p, c, none⟩ (.int .i64 y)) p (upd f c y) n s := by
      have := obj_set h1 c (.int .i64 y)
      unfold B12
      rw [this]
      rcases lt8 hc with rfl | rfl | rfl | rfl | rfl | rfl | rfl | rfl <;> rfl
    replace hb1 := Lib.hid hb1
    replace h1 := Lib.hid h1
    replace h2 := Lib.hid h2
    go_wp2_with fail
    go_ret
    exact ⟨rfl, h2.out, (Kp.of_below (F := fun j => j = p) hb1.out).setCell (p := ⟨p, c, none⟩) (.inl rfl) _⟩
  · rw [(fitE_out hI)] at hA
    rw [if_neg hI, fitE_out hI]
    generalize fitV (f c + a) = y at *
    generalize f c + a = y2 at *
    replace hA := Lib.hid hA
    replace h := Lib.hid h
    replace hI := Lib.hid hI
    replace hf := Lib.hid hf
    go_enter Tryz.func97, Tryz.ntmps97
    go_wp2_with (first | (go_at_call 61; (with_reducible refine hA.out.mono ?_); rintro e w1 ⟨rfl, hb1⟩; replace hb1 := Lib.hid hb1))
    go_ret
    exact ⟨rfl, (hb1.out.block _ hl).trans h.out, Kp.of_below hb1.out⟩
end Go.Proofs.YtiehbbhjpcnbnaaGreat
namespace Go.Proofs.YtiehbbhjpcnbnaaGreat
open Go.RowKit
set_option linter.unusedVariables false

def WM.iff (x : WM) (m : Int) (ps : List Pst) : Int × Int × Int := if x.has m then ifM x.cs x.cs.length (x.S m.toNat) m ps else (0, 0, 1)
/-- If's way: k postings are done to the member's copy -/
structure IFS (w : World) (B : Nat) (f : Nat → Int) (n s : Int × Int) (m : Int) (ps : List Pst) (k : Nat) (d : Nat → Int) (wr : World) : Prop where
  box : B12 wr B d n s
  go : goI m d (ps.drop k) = goI m f ps
  ic : ∀ c, In64 (d c)
  blw : Below w.heap.size w wr
  bge : w.heap.size ≤ B
theorem IFS.skip {w wr w' : World} {B : Nat} {f d : Nat → Int} {n s : Int × Int} {m : Int} {ps : List Pst} {k : Nat} {q : Pst} (h : IFS w B f n s m ps k d wr) (hq : ps[k]? = some q) (hm : ¬ q.m = m) (hb : Below wr.heap.size wr w') : IFS w B f n s m ps (k + 1) d w' := by
  refine ⟨(hb.block _ (obj_lt h.box)).trans h.box, ?_, h.ic, h.blw.trans (hb.mono h.blw.size), h.bge⟩
  rw [← h.go, goI_step hq, if_neg hm]
theorem IFS.done {w wr w1 w' : World} {B : Nat} {f d : Nat → Int} {n s : Int × Int} {m : Int} {ps : List Pst} {k : Nat} {q : Pst} (h : IFS w B f n s m ps k d wr) (hq : ps[k]? = some q) (hm : q.m = m) (hI : In64 (d q.c.toNat + q.a)) (hb : Below wr.heap.size wr w1) (hx : B12 w' B (upd d q.c.toNat (d q.c.toNat + q.a)) n s) (hK : Kp (fun j => j = B) w1 w') : IFS w B f n s m ps (k + 1) (upd d q.c.toNat (d q.c.toNat + q.a)) w' := by
  have hb1 : Below w.heap.size w w1 := h.blw.trans (hb.mono h.blw.size)
  refine ⟨hx, ?_, upd_in h.ic hI, hb1.trans (hK.below hb1.size fun j hj e => ?_), h.bge⟩
  · rw [← h.go, goI_step hq, if_pos hm, if_pos hI]
  · have := h.bge; omega
theorem IFS.over {w wr : World} {B : Nat} {f d : Nat → Int} {n s : Int × Int} {m : Int} {ps : List Pst} {k : Nat} {q : Pst} (h : IFS w B f n s m ps k d wr) (hq : ps[k]? = some q) (hm : q.m = m) (hI : ¬ In64 (d q.c.toNat + q.a)) : goI m f ps = none := by
  rw [← h.go, goI_step hq, if_pos hm, if_neg hI]
theorem both_eq (t : List Cur) (nc : Nat) (d : Nat → Int) : bothV (netF t d nc 0 0) (shortF t d nc 0 0) = bothM t nc d := by
  obtain ⟨_, h1⟩ := net_in t d nc 0 0 ⟨by decide, by decide⟩
  obtain ⟨_, h2⟩ := short_in t d nc 0 0 ⟨by decide, by decide⟩
  unfold bothV bothM
  rcases h1 with h1 | h1 <;> rcases h2 with h2 | h2 <;> simp [h1, h2]

set_option maxHeartbeats 8000000 in
set_option maxRecDepth 100000 in
theorem if_any {P : Nat → Prop} {b lb : Nat} {x : WM} (m : Int) (p : Option Addr) (len cap : Nat) (ps : List Pst) (w : World) (hW : WP P w b lb x) (hrow : PRow w p len ps) (hlen : len ≤ 1000) :
    Calls Tryz.prog 66 #[.pointer (some ⟨b, 0, none⟩), .int .i64 m, .slice p len cap] w (RetM (x.iff m ps) w) := by
  obtain ⟨gT, cT, gM, cM, h⟩ := hW
  have hH := whas_any m w h
  obtain ⟨R, hR⟩ : ∃ R, x.iff m ps = R := ⟨_, rfl⟩
  rw [hR]
  unfold WM.iff at hR
  have c0 := h.c0
  have c2 := h.c2
  have hbl := obj_lt h.obj
  have hMl := h.rows.lt
  have h8 := h.n8
  cases hh : x.has m with
  | false =>
    rw [hh] at hH hR
    rw [if_neg (by simp)] at hR
    subst hR
    replace hH := Lib.hid hH
    replace h := Lib.hid h
    replace hrow := Lib.hid hrow
    go_enter Tryz.func66, Tryz.ntmps66
    go_wp2_with (first | (go_at_call 68; (with_reducible refine hH.out.mono ?_); rintro e w1 ⟨rfl, rfl⟩))
    go_ret3
    exact ⟨rfl, Below.refl _ _⟩
  | true =>
    have hI := inCur_any p len cap ps w h hrow hlen
    rw [hh] at hH hR
    rw [if_pos rfl] at hR
    obtain ⟨i, rfl, hi⟩ := WM.has_nat hh
    have ei : ((i : Int)).toNat = i := by omega
    rw [ei] at hR
    cases hk : knownC x.cs.length ps with
    | false =>
      rw [hk] at hI
      rw [ifM_not hk] at hR
      subst hR
      replace hH := Lib.hid hH
      replace hI := Lib.hid hI
      replace h := Lib.hid h
      replace hrow := Lib.hid hrow
      go_enter Tryz.func66, Tryz.ntmps66
      go_wp2_with (first | (go_at_call 68; (with_reducible refine hH.out.mono ?_); rintro e w1 ⟨rfl, rfl⟩) | (go_at_call 96; (with_reducible refine hI.out.mono ?_); rintro e w1 ⟨rfl, hb1⟩; replace hb1 := Lib.hid hb1))
      go_ret3
      exact ⟨rfl, hb1.out⟩
    | true =>
      rw [hk] at hI
      have hiz : (i : Int) < (x.nm : Int) := by omega
      obtain ⟨V, hV⟩ : ∃ V : SV, stV x.cs (x.S i) = V := ⟨_, rfl⟩
      have hV1 : V.1 = x.S i := by rw [← hV]; rfl
      have hka := known_all hk
      replace hH := Lib.hid hH
      replace hI := Lib.hid hI
      replace h := Lib.hid h
      replace hrow := Lib.hid hrow
      replace hR := Lib.hid hR
      replace hV := Lib.hid hV
      replace hk := Lib.hid hk
      replace hka := Lib.hid hka
      go_enter Tryz.func66, Tryz.ntmps66
      go_upto_region 3 with (first | (go_at_call 68; (with_reducible refine hH.out.mono ?_); rintro e w1 ⟨rfl, rfl⟩) | (go_at_call 96; (with_reducible refine hI.out.mono ?_); rintro e w1 ⟨rfl, hb1⟩))
      have h1 := h.out.below hb1
      obtain ⟨y0, y1, y2, y3, y4, y5, y6, y7, y8, y9, y10, y11⟩ := h1.rows.cells hi
      rw [hV.out] at y0 y1 y2 y3 y4 y5 y6 y7 y8 y9 y10 y11
      have c2' := h1.c2
      have c0' := h1.c0
      have hBb : Below w1.heap.size w1 (w1.alloc (.cells (s12V V) 137)) := (Below.refl _ _).alloc (Nat.le_refl _) _
      have hbx := heap_alloc_new w1 (.cells (s12V V) 137)
      have hS0 : IFS w w1.heap.size (x.S i) V.2.1 V.2.2 (i : Int) ps 0 (x.S i) (w1.alloc (.cells (s12V V) 137)) :=
        ⟨by rw [← hV1]; exact hbx, rfl, h.out.in64 i, hb1.trans (hBb.mono hb1.size), hb1.size⟩
      generalize hv : w1.alloc (.cells (s12V V) 137) = v at *
      unfold s12V s12 at hv
      replace hv := Lib.hid hv
      replace hS0 := Lib.hid hS0
      replace hbx := Lib.hid hbx
      replace hb1 := Lib.hid hb1
      replace hBb := Lib.hid hBb
      replace h1 := Lib.hid h1
      replace hV1 := Lib.hid hV1
      go_upto_region 4 with (fail)
      change Code.wp _ _ _ _ (w1.alloc (.cells #[.int .i64 (V.1 0), .int .i64 (V.1 1), .int .i64 (V.1 2), .int .i64 (V.1 3), .int .i64 (V.1 4), .int .i64 (V.1 5), .int .i64 (V.1 6), .int .i64 (V.1 7), .int .i64 V.2.1.1, .int .i64 V.2.1.2, .int .i64 V.2.2.1, .int .i64 V.2.2.2] 137))
      rw [hv.out]
      clear y0 y1 y2 y3 y4 y5 y6 y7 y8 y9 y10 y11 c2'
      go_upto_region 5 with (fail)
      go_loopw [32] (fun i' wr => ∃ (k : Nat) (d : Nat → Int), k ≤ len ∧ i' = .int .i64 (k : Int) ∧ Hid (IFS w w1.heap.size (x.S i) V.2.1 V.2.2 (i : Int) ps k d wr)) (fun i' _ => len - (intOf i').toNat)
      case atStart => exact ⟨0, _, by omega, rfl, hS0⟩
      case round =>
        obtain ⟨k, d, hk2, rfl, hS⟩ := hrel
        have hT := hS.out
        have hws := hT.blw.size
        by_cases hkl : k < len
        · have hkz : (k : Int) < (len : Int) := by omega
          obtain ⟨hpl, hin, hrw⟩ := hrow.out
          obtain ⟨rb, off, rfl, hbs, hcells⟩ := hrw.resolve_left (by omega)
          obtain ⟨y, hq⟩ : ∃ y, ps[k]? = some y := ⟨ps[k], List.getElem?_eq_getElem (by omega)⟩
          obtain ⟨q0, q1, q2⟩ := hcells k y hq
          have hyc := hka.out y (List.mem_of_getElem? hq)
          have hy64 := hin y (List.mem_of_getElem? hq)
          obtain ⟨j, hj⟩ : ∃ j : Nat, y.c = j := ⟨y.c.toNat, by omega⟩
          have hjt : y.c.toNat = j := by omega
          replace q0 := (hT.blw.cell (p := ⟨rb, off + k * 3, none⟩) hbs).trans q0
          replace q1 := (hT.blw.cell (p := ⟨rb, off + k * 3 + 1, none⟩) hbs).trans q1
          replace q2 := (hT.blw.cell (p := ⟨rb, off + k * 3 + 2, none⟩) hbs).trans q2
          rw [hj] at q1
          have hbx2 := heap_alloc_new wr (.cells #[.int .i64 y.m, .int .i64 (j : Int), .int .i64 y.a] 60)
          have hB2 : Below wr.heap.size wr (wr.alloc (.cells #[.int .i64 y.m, .int .i64 (j : Int), .int .i64 y.a] 60)) := (Below.refl _ _).alloc (Nat.le_refl _) _
          replace hcells := Lib.hid hcells
          replace hin := Lib.hid hin
          replace hrw := Lib.hid hrw
          replace hj := Lib.hid hj
          replace hpl := Lib.hid hpl
          generalize hv1 : wr.alloc (.cells #[.int .i64 y.m, .int .i64 (j : Int), .int .i64 y.a] 60) = v1 at *
          have d0 : v1.cell? ⟨wr.heap.size, 0, none⟩ = some (.int .i64 y.m) := obj_cell hbx2 rfl
          have d1 : v1.cell? ⟨wr.heap.size, 1, none⟩ = some (.int .i64 (j : Int)) := obj_cell hbx2 rfl
          have d2 : v1.cell? ⟨wr.heap.size, 2, none⟩ = some (.int .i64 y.a) := obj_cell hbx2 rfl
          have hbxd : B12 v1 w1.heap.size d V.2.1 V.2.2 := (hB2.block _ (obj_lt hT.box)).trans hT.box
          have hPo := post1_any w1.heap.size d V.2.1 V.2.2 j y.a v1 hbxd (by omega) (hT.ic _) hy64.2.2
          replace hbx2 := Lib.hid hbx2
          replace hv1 := Lib.hid hv1
          replace hT := Lib.hid hT
          replace hq := Lib.hid hq
          replace hbxd := Lib.hid hbxd
          replace hB2 := Lib.hid hB2
          replace hy64 := Lib.hid hy64
          replace hjt := Lib.hid hjt
          go_upto_region 7 with (fail)
          change Code.wp _ _ _ _ (wr.alloc (.cells #[.int .i64 y.m, .int .i64 (j : Int), .int .i64 y.a] 60))
          rw [hv1.out]
          clear q0 q1 q2
          by_cases hm : y.m = (i : Int)
          · have hme : (y.m != (i : Int)) = false := by simpa using hm
            by_cases hI64 : In64 (d j + y.a)
            · rw [if_pos hI64, (fitE_in hI64).2] at hPo
              have hfin := fun w' hx hK => hT.out.done (w' := w') hq.out hm (by rw [hjt.out]; exact hI64) hB2.out hx hK
              rw [hjt.out] at hfin
              replace hfin := Lib.hid hfin
              replace hPo := Lib.hid hPo
              replace hI64 := Lib.hid hI64
              replace hm := Lib.hid hm
              go_wp2_with (first | (go_at_call 97; (with_reducible refine hPo.out.mono ?_); rintro e w3 ⟨rfl, hx3, hK3⟩; have hS3 := Lib.hid (hfin.out _ hx3 hK3); replace hx3 := Lib.hid hx3; replace hK3 := Lib.hid hK3))
              go_roundw
              case rel => exact ⟨k + 1, _, by omega, by go_num, hS3⟩
              case measure => simp [intOf]; omega
            · rw [if_neg hI64, fitE_out hI64] at hPo
              have hno := hT.out.over hq.out hm (by rw [hjt.out]; exact hI64)
              have eR : R = (0, 0, 3) := by rw [← hR.out]; exact ifM_over hk.out hno
              replace hno := Lib.hid hno
              replace hPo := Lib.hid hPo
              replace hI64 := Lib.hid hI64
              replace hm := Lib.hid hm
              replace eR := Lib.hid eR
              go_wp2_with (first | (go_at_call 97; (with_reducible refine hPo.out.mono ?_); rintro e w3 ⟨rfl, hx3, hK3⟩; replace hx3 := Lib.hid hx3; replace hK3 := Lib.hid hK3))
              go_ret3
              rw [eR.out]
              have hb2 : Below w.heap.size w v1 := hT.out.blw.trans (hB2.out.mono hws)
              exact ⟨rfl, hb2.trans (hK3.out.below hb2.size fun j hj e => by have := hT.out.bge; omega)⟩
          · have hme : (y.m != (i : Int)) = true := by simpa using hm
            have hS3 := Lib.hid (hT.out.skip hq.out hm hB2.out)
            replace hm := Lib.hid hm
            go_wp2_with fail
            go_roundw
            case rel => exact ⟨k + 1, _, by omega, by go_num, hS3⟩
            case measure => simp [intOf]; omega
        · obtain rfl : k = len := by omega
          have hkz : ¬ (k : Int) < (k : Int) := by omega
          have hgo : goI (i : Int) (x.S i) ps = some d := by
            have := hT.go
            rw [List.drop_eq_nil_of_le (by have := hrow.out.1; omega)] at this
            exact this.symm
          have eR : R = bothM x.cs x.cs.length d := by rw [← hR.out]; exact ifM_known hk.out hgo
          have hTt : Tab wr (some ⟨gT, 0, none⟩) x.cs.length x.cs := h.out.tab.kept hT.blw
          have c0r := (h.out.below hT.blw).c0
          have hbr := obj_lt (h.out.below hT.blw).obj
          replace hT := Lib.hid hT
          replace hgo := Lib.hid hgo
          replace eR := Lib.hid eR
          replace hTt := Lib.hid hTt
          go_upto_region 12 with (fail)
          go_cut [6, 7, 8] from 50 to 60 (fun v6 v7 v8 wc => v6 = .int .i64 R.1 ∧ v7 = .int .i64 R.2.1 ∧ v8 = .int .i64 R.2.2 ∧ Hid (Below wr.heap.size wr wc))
          case first =>
            rename_i J1 K1 hJ1 hK1
            refine wp_region_closed (by kernel_rfl) (fun L az wz => ∃ v6 v7 v8 v50 v51 v52 v53 v54 v55 v56 v57 v58 v59 v60 : Value, az = ({ tmps := (.pointer (some ⟨b, 0, none⟩) :: .int .i64 (i : Int) :: Value.slice p k cap :: undef :: undef :: undef :: v6 :: v7 :: v8 :: .pointer (some ⟨w1.heap.size, 0, none⟩) :: undef :: u11 :: u12 :: .pointer (some ⟨b, 0, none⟩) :: .int .i64 (i : Int) :: .bool true :: .bool false :: .bool false :: .pointer (some ⟨b, 0, none⟩) :: Value.slice p k cap :: .bool true :: .bool false :: .bool false :: .pointer (some ⟨b, 0, none⟩) :: .pointer (some ⟨b, 0, none⟩) :: .pointer (some ⟨b, 2, none⟩) :: Value.slice (some ⟨gM, 0, none⟩) x.nm cM :: .int .i64 (i : Int) :: .pointer (some ⟨gM, i * 12, none⟩) :: Value.agg #[.int .i64 (V.1 0), .int .i64 (V.1 1), .int .i64 (V.1 2), .int .i64 (V.1 3), .int .i64 (V.1 4), .int .i64 (V.1 5), .int .i64 (V.1 6), .int .i64 (V.1 7), .int .i64 V.2.1.1, .int .i64 V.2.1.2, .int .i64 V.2.2.1, .int .i64 V.2.2.2] :: Value.slice p k cap :: .int .i64 (k : Int) :: .int .i64 (k : Int) :: .bool false :: u34 :: u35 :: u36 :: u37 :: u38 :: u39 :: u40 :: u41 :: u42 :: u43 :: u44 :: u45 :: u46 :: u47 :: u48 :: u49 :: v50 :: v51 :: v52 :: v53 :: v54 :: v55 :: v56 :: v57 :: v58 :: v59 :: v60 :: []).toArray, defers := [] } : Act) ∧ (Below wr.heap.size wr wz) ∧ (L 0 = true → v50 = .pointer (some ⟨w1.heap.size, 0, none⟩)) ∧ (L 1 = true → v51 = .agg (r8 d)) ∧ (L 2 = true → v52 = .pointer (some ⟨b, 0, none⟩)) ∧ (L 3 = true → v53 = .pointer (some ⟨b, 0, none⟩)) ∧ (L 4 = true → v54 = .pointer (some ⟨b, 0, none⟩)) ∧ (L 5 = true → v55 = Value.slice (some ⟨gT, 0, none⟩) x.cs.length cT) ∧ (L 6 = true → v56 = .agg (s12V (stV x.cs d))) ∧ (L 7 = true → v57 = .tuple #[.int .i64 R.1, .int .i64 R.2.1, .int .i64 R.2.2]) ∧ (L 8 = true → v58 = .int .i64 R.1) ∧ (L 9 = true → v59 = .int .i64 R.2.1) ∧ (L 10 = true → v60 = .int .i64 R.2.2) ∧ (L 11 = true → v6 = .int .i64 R.1) ∧ (L 12 = true → v7 = .int .i64 R.2.1) ∧ (L 13 = true → v8 = .int .i64 R.2.2)) (by kernel_rfl) ?_ ?_ ?_
            · exact ⟨_, _, _, _, _, _, _, _, _, _, _, _, _, _, rfl, (Below.refl _ _).drew, nofun, nofun, nofun, nofun, nofun, nofun, nofun, nofun, nofun, nofun, nofun, nofun, nofun, nofun⟩
            · intro L az wz iz hiz hni hI hdep hcl
              obtain ⟨v6, v7, v8, v50, v51, v52, v53, v54, v55, v56, v57, v58, v59, v60, rfl, hB, h0, h1, h2, h3, h4, h5, h6, h7, h8, h9, h10, h11, h12, h13⟩ := hI
              have hcase : iz = 0 ∨ iz = 1 ∨ iz = 2 ∨ iz = 3 ∨ iz = 4 ∨ iz = 5 ∨ iz = 6 ∨ iz = 7 ∨ iz = 8 ∨ iz = 9 ∨ iz = 10 ∨ iz = 11 ∨ iz = 12 ∨ iz = 13 := by
                have hi2 : iz < 14 := hiz
                omega
              rcases hcase with rfl | rfl | rfl | rfl | rfl | rfl | rfl | rfl | rfl | rfl | rfl | rfl | rfl | rfl
              · -- 0
                refine wpOp_step rfl fun Kz hKz => ?_
                go_simp
                exact hKz _ _ ⟨_, _, _, _, _, _, _, _, _, _, _, _, _, _, rfl, hB, fun _ => rfl, fun e => h1 (add_ne e (by decide)), fun e => h2 (add_ne e (by decide)), fun e => h3 (add_ne e (by decide)), fun e => h4 (add_ne e (by decide)), fun e => h5 (add_ne e (by decide)), fun e => h6 (add_ne e (by decide)), fun e => h7 (add_ne e (by decide)), fun e => h8 (add_ne e (by decide)), fun e => h9 (add_ne e (by decide)), fun e => h10 (add_ne e (by decide)), fun e => h11 (add_ne e (by decide)), fun e => h12 (add_ne e (by decide)), fun e => h13 (add_ne e (by decide))⟩
              · -- 1
                have e0 := h0 (hdep 0 (by decide +kernel))
                subst e0
                have hbz := (hB.block _ (obj_lt hT.out.box)).trans hT.out.box
                have z0 : wz.cell? ⟨w1.heap.size, 0, none⟩ = some (.int .i64 (d 0)) := obj_cell hbz rfl
                have z1 : wz.cell? ⟨w1.heap.size, 1, none⟩ = some (.int .i64 (d 1)) := obj_cell hbz rfl
                have z2 : wz.cell? ⟨w1.heap.size, 2, none⟩ = some (.int .i64 (d 2)) := obj_cell hbz rfl
                have z3 : wz.cell? ⟨w1.heap.size, 3, none⟩ = some (.int .i64 (d 3)) := obj_cell hbz rfl
                have z4 : wz.cell? ⟨w1.heap.size, 4, none⟩ = some (.int .i64 (d 4)) := obj_cell hbz rfl
                have z5 : wz.cell? ⟨w1.heap.size, 5, none⟩ = some (.int .i64 (d 5)) := obj_cell hbz rfl
                have z6 : wz.cell? ⟨w1.heap.size, 6, none⟩ = some (.int .i64 (d 6)) := obj_cell hbz rfl
                have z7 : wz.cell? ⟨w1.heap.size, 7, none⟩ = some (.int .i64 (d 7)) := obj_cell hbz rfl
                replace hbz := Lib.hid hbz
                refine wpOp_step rfl fun Kz hKz => ?_
                go_simp
                exact hKz _ _ ⟨_, _, _, _, _, _, _, _, _, _, _, _, _, _, rfl, hB, fun e => h0 (add_ne e (by decide)), fun _ => rfl, fun e => h2 (add_ne e (by decide)), fun e => h3 (add_ne e (by decide)), fun e => h4 (add_ne e (by decide)), fun e => h5 (add_ne e (by decide)), fun e => h6 (add_ne e (by decide)), fun e => h7 (add_ne e (by decide)), fun e => h8 (add_ne e (by decide)), fun e => h9 (add_ne e (by decide)), fun e => h10 (add_ne e (by decide)), fun e => h11 (add_ne e (by decide)), fun e => h12 (add_ne e (by decide)), fun e => h13 (add_ne e (by decide))⟩
              · -- 2
                refine wpOp_step rfl fun Kz hKz => ?_
                go_simp
                exact hKz _ _ ⟨_, _, _, _, _, _, _, _, _, _, _, _, _, _, rfl, hB, fun e => h0 (add_ne e (by decide)), fun e => h1 (add_ne e (by decide)), fun _ => rfl, fun e => h3 (add_ne e (by decide)), fun e => h4 (add_ne e (by decide)), fun e => h5 (add_ne e (by decide)), fun e => h6 (add_ne e (by decide)), fun e => h7 (add_ne e (by decide)), fun e => h8 (add_ne e (by decide)), fun e => h9 (add_ne e (by decide)), fun e => h10 (add_ne e (by decide)), fun e => h11 (add_ne e (by decide)), fun e => h12 (add_ne e (by decide)), fun e => h13 (add_ne e (by decide))⟩
              · -- 3
                have e2 := h2 (hdep 2 (by decide +kernel))
                subst e2
                refine wpOp_step rfl fun Kz hKz => ?_
                go_simp
                exact hKz _ _ ⟨_, _, _, _, _, _, _, _, _, _, _, _, _, _, rfl, hB, fun e => h0 (add_ne e (by decide)), fun e => h1 (add_ne e (by decide)), fun e => h2 (add_ne e (by decide)), fun _ => rfl, fun e => h4 (add_ne e (by decide)), fun e => h5 (add_ne e (by decide)), fun e => h6 (add_ne e (by decide)), fun e => h7 (add_ne e (by decide)), fun e => h8 (add_ne e (by decide)), fun e => h9 (add_ne e (by decide)), fun e => h10 (add_ne e (by decide)), fun e => h11 (add_ne e (by decide)), fun e => h12 (add_ne e (by decide)), fun e => h13 (add_ne e (by decide))⟩
              · -- 4
                have e3 := h3 (hdep 3 (by decide +kernel))
                subst e3
                refine wpOp_step rfl fun Kz hKz => ?_
                go_simp
                exact hKz _ _ ⟨_, _, _, _, _, _, _, _, _, _, _, _, _, _, rfl, hB, fun e => h0 (add_ne e (by decide)), fun e => h1 (add_ne e (by decide)), fun e => h2 (add_ne e (by decide)), fun e => h3 (add_ne e (by decide)), fun _ => rfl, fun e => h5 (add_ne e (by decide)), fun e => h6 (add_ne e (by decide)), fun e => h7 (add_ne e (by decide)), fun e => h8 (add_ne e (by decide)), fun e => h9 (add_ne e (by decide)), fun e => h10 (add_ne e (by decide)), fun e => h11 (add_ne e (by decide)), fun e => h12 (add_ne e (by decide)), fun e => h13 (add_ne e (by decide))⟩
              · -- 5
                have e4 := h4 (hdep 4 (by decide +kernel))
                subst e4
                have z := (hB.cell (p := ⟨b, 0, none⟩) hbr).trans c0r
                refine wpOp_step rfl fun Kz hKz => ?_
                go_simp
                exact hKz _ _ ⟨_, _, _, _, _, _, _, _, _, _, _, _, _, _, rfl, hB, fun e => h0 (add_ne e (by decide)), fun e => h1 (add_ne e (by decide)), fun e => h2 (add_ne e (by decide)), fun e => h3 (add_ne e (by decide)), fun e => h4 (add_ne e (by decide)), fun _ => rfl, fun e => h6 (add_ne e (by decide)), fun e => h7 (add_ne e (by decide)), fun e => h8 (add_ne e (by decide)), fun e => h9 (add_ne e (by decide)), fun e => h10 (add_ne e (by decide)), fun e => h11 (add_ne e (by decide)), fun e => h12 (add_ne e (by decide)), fun e => h13 (add_ne e (by decide))⟩
              · -- 6
                have e1 := h1 (hdep 1 (by decide +kernel))
                subst e1
                have e5 := h5 (hdep 5 (by decide +kernel))
                subst e5
                have hcc := by_any d (some ⟨gT, 0, none⟩) x.cs.length cT x.cs wz (hTt.out.kept hB) h.out.n8 h.out.oob hT.out.ic
                rw [show s12 d (netF x.cs d x.cs.length 0 0) (shortF x.cs d x.cs.length 0 0) = s12V (stV x.cs d) from rfl] at hcc
                replace hcc := Lib.hid hcc
                refine wpOp_step rfl fun Kz hKz => ?_
                go_simp
                go_at_call 70
                refine (hcc.out).mono ?_
                rintro e w1 ⟨rfl, hb9⟩
                have hB9 := hB.trans (hb9.mono hB.size)
                go_simp
                exact hKz _ _ ⟨_, _, _, _, _, _, _, _, _, _, _, _, _, _, rfl, hB9, fun e => h0 (add_ne e (by decide)), fun e => h1 (add_ne e (by decide)), fun e => h2 (add_ne e (by decide)), fun e => h3 (add_ne e (by decide)), fun e => h4 (add_ne e (by decide)), fun e => h5 (add_ne e (by decide)), fun _ => rfl, fun e => h7 (add_ne e (by decide)), fun e => h8 (add_ne e (by decide)), fun e => h9 (add_ne e (by decide)), fun e => h10 (add_ne e (by decide)), fun e => h11 (add_ne e (by decide)), fun e => h12 (add_ne e (by decide)), fun e => h13 (add_ne e (by decide))⟩
              · -- 7
                have e6 := h6 (hdep 6 (by decide +kernel))
                subst e6
                have hcc := both_any d (netF x.cs d x.cs.length 0 0) (shortF x.cs d x.cs.length 0 0) wz
                rw [both_eq, ← eR.out] at hcc
                replace hcc := Lib.hid hcc
                refine wpOp_step rfl fun Kz hKz => ?_
                go_simp
                go_at_call 98
                refine (hcc.out).mono ?_
                rintro e w1 ⟨rfl, hb9⟩
                have hB9 := hB.trans (hb9.mono hB.size)
                go_simp
                exact hKz _ _ ⟨_, _, _, _, _, _, _, _, _, _, _, _, _, _, rfl, hB9, fun e => h0 (add_ne e (by decide)), fun e => h1 (add_ne e (by decide)), fun e => h2 (add_ne e (by decide)), fun e => h3 (add_ne e (by decide)), fun e => h4 (add_ne e (by decide)), fun e => h5 (add_ne e (by decide)), fun e => h6 (add_ne e (by decide)), fun _ => rfl, fun e => h8 (add_ne e (by decide)), fun e => h9 (add_ne e (by decide)), fun e => h10 (add_ne e (by decide)), fun e => h11 (add_ne e (by decide)), fun e => h12 (add_ne e (by decide)), fun e => h13 (add_ne e (by decide))⟩
              · -- 8
                have e7 := h7 (hdep 7 (by decide +kernel))
                subst e7
                refine wpOp_step rfl fun Kz hKz => ?_
                go_simp
                exact hKz _ _ ⟨_, _, _, _, _, _, _, _, _, _, _, _, _, _, rfl, hB, fun e => h0 (add_ne e (by decide)), fun e => h1 (add_ne e (by decide)), fun e => h2 (add_ne e (by decide)), fun e => h3 (add_ne e (by decide)), fun e => h4 (add_ne e (by decide)), fun e => h5 (add_ne e (by decide)), fun e => h6 (add_ne e (by decide)), fun e => h7 (add_ne e (by decide)), fun _ => rfl, fun e => h9 (add_ne e (by decide)), fun e => h10 (add_ne e (by decide)), fun e => h11 (add_ne e (by decide)), fun e => h12 (add_ne e (by decide)), fun e => h13 (add_ne e (by decide))⟩
              · -- 9
                have e7 := h7 (hdep 7 (by decide +kernel))
                subst e7
                refine wpOp_step rfl fun Kz hKz => ?_
                go_simp
                exact hKz _ _ ⟨_, _, _, _, _, _, _, _, _, _, _, _, _, _, rfl, hB, fun e => h0 (add_ne e (by decide)), fun e => h1 (add_ne e (by decide)), fun e => h2 (add_ne e (by decide)), fun e => h3 (add_ne e (by decide)), fun e => h4 (add_ne e (by decide)), fun e => h5 (add_ne e (by decide)), fun e => h6 (add_ne e (by decide)), fun e => h7 (add_ne e (by decide)), fun e => h8 (add_ne e (by decide)), fun _ => rfl, fun e => h10 (add_ne e (by decide)), fun e => h11 (add_ne e (by decide)), fun e => h12 (add_ne e (by decide)), fun e => h13 (add_ne e (by decide))⟩
              · -- 10
                have e7 := h7 (hdep 7 (by decide +kernel))
                subst e7
                refine wpOp_step rfl fun Kz hKz => ?_
                go_simp
                exact hKz _ _ ⟨_, _, _, _, _, _, _, _, _, _, _, _, _, _, rfl, hB, fun e => h0 (add_ne e (by decide)), fun e => h1 (add_ne e (by decide)), fun e => h2 (add_ne e (by decide)), fun e => h3 (add_ne e (by decide)), fun e => h4 (add_ne e (by decide)), fun e => h5 (add_ne e (by decide)), fun e => h6 (add_ne e (by decide)), fun e => h7 (add_ne e (by decide)), fun e => h8 (add_ne e (by decide)), fun e => h9 (add_ne e (by decide)), fun _ => rfl, fun e => h11 (add_ne e (by decide)), fun e => h12 (add_ne e (by decide)), fun e => h13 (add_ne e (by decide))⟩
              · -- 11
                have e8 := h8 (hdep 8 (by decide +kernel))
                subst e8
                refine wpOp_step rfl fun Kz hKz => ?_
                go_simp
                exact hKz _ _ ⟨_, _, _, _, _, _, _, _, _, _, _, _, _, _, rfl, hB, fun e => h0 (add_ne e (by decide)), fun e => h1 (add_ne e (by decide)), fun e => h2 (add_ne e (by decide)), fun e => h3 (add_ne e (by decide)), fun e => h4 (add_ne e (by decide)), fun e => h5 (add_ne e (by decide)), fun e => h6 (add_ne e (by decide)), fun e => h7 (add_ne e (by decide)), fun e => h8 (add_ne e (by decide)), fun e => h9 (add_ne e (by decide)), fun e => h10 (add_ne e (by decide)), fun _ => rfl, fun e => h12 (add_ne e (by decide)), fun e => h13 (add_ne e (by decide))⟩
              · -- 12
                have e9 := h9 (hdep 9 (by decide +kernel))
                subst e9
                refine wpOp_step rfl fun Kz hKz => ?_
                go_simp
                exact hKz _ _ ⟨_, _, _, _, _, _, _, _, _, _, _, _, _, _, rfl, hB, fun e => h0 (add_ne e (by decide)), fun e => h1 (add_ne e (by decide)), fun e => h2 (add_ne e (by decide)), fun e => h3 (add_ne e (by decide)), fun e => h4 (add_ne e (by decide)), fun e => h5 (add_ne e (by decide)), fun e => h6 (add_ne e (by decide)), fun e => h7 (add_ne e (by decide)), fun e => h8 (add_ne e (by decide)), fun e => h9 (add_ne e (by decide)), fun e => h10 (add_ne e (by decide)), fun e => h11 (add_ne e (by decide)), fun _ => rfl, fun e => h13 (add_ne e (by decide))⟩
              · -- 13
                have e10 := h10 (hdep 10 (by decide +kernel))
                subst e10
                refine wpOp_step rfl fun Kz hKz => ?_
                go_simp
                exact hKz _ _ ⟨_, _, _, _, _, _, _, _, _, _, _, _, _, _, rfl, hB, fun e => h0 (add_ne e (by decide)), fun e => h1 (add_ne e (by decide)), fun e => h2 (add_ne e (by decide)), fun e => h3 (add_ne e (by decide)), fun e => h4 (add_ne e (by decide)), fun e => h5 (add_ne e (by decide)), fun e => h6 (add_ne e (by decide)), fun e => h7 (add_ne e (by decide)), fun e => h8 (add_ne e (by decide)), fun e => h9 (add_ne e (by decide)), fun e => h10 (add_ne e (by decide)), fun e => h11 (add_ne e (by decide)), fun e => h12 (add_ne e (by decide)), fun _ => rfl⟩
            · intro L az wz hI hL
              obtain ⟨v6, v7, v8, v50, v51, v52, v53, v54, v55, v56, v57, v58, v59, v60, rfl, hB, h0, h1, h2, h3, h4, h5, h6, h7, h8, h9, h10, h11, h12, h13⟩ := hI
              refine hK1 _ _ (Met.intro (hJ1 _ _ ?_))
              (repeat apply Exists.intro)
              refine ⟨?rel, rfl⟩
              case rel => exact ⟨h11 (hL 11 (by decide)), h12 (hL 12 (by decide)), h13 (hL 13 (by decide)), hB⟩
          case rest =>
            obtain ⟨rfl, rfl, rfl, hBc⟩ := hcut
            go_wp2_with fail
            go_ret3
            exact ⟨rfl, hT.out.blw.trans (hBc.out.mono hws)⟩
end Go.Proofs.YtiehbbhjpcnbnaaGreat
namespace Go.Proofs.YtiehbbhjpcnbnaaGreat
open Go.RowKit
set_option linter.unusedVariables false

theorem joinT (a b : List UInt8) (w : World) (h : a.length + b.length ≤ 1000000) : (Op.stringOp .add (⟨a.toArray⟩ : ByteArray) (⟨b.toArray⟩ : ByteArray)).run Tryz.prog w = .ok (.string ⟨(a ++ b).toArray⟩) w := by
  rw [run_string_add_sum w _ _ (by rw [mk_size, mk_size]; omega), mk_append]
theorem wrap_toU (n : Int) : IntKind.u64.wrap n = (toU n : Nat) := by
  rw [IntKind.wrap_u64]
  unfold toU
  omega
theorem bes_step (k n : Nat) : bes (k + 1) n = UInt8.ofNat (n / 256 ^ k % 256) :: bes k n := rfl
theorem rowB_succ (f : Nat → Int) (n : Nat) : rowB f (n + 1) = rowB f n ++ bes 8 (toU (f n)) := rfl
theorem rowsB_succ (B : Nat → Nat → Int) (nc m : Nat) : rowsB B nc (m + 1) = rowsB B nc m ++ rowB (B m) nc := rfl

end Go.Proofs.YtiehbbhjpcnbnaaGreat
