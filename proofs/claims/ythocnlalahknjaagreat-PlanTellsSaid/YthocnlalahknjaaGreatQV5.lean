/- The contract of the reference's Div. -/
import Derived.Test.YthocnlalahknjaaGreatQXv
namespace Go.Proofs.YthocnlalahknjaaGreat
open Go.RowKit
set_option linter.unusedVariables false

theorem undrew {n : Nat} {a b : World} (h : Below n a.drew b) : Below n a b := ⟨h.os, h.tape, h.output, h.size, h.block⟩
section
variable {w X : World} {na : Bool} {pa pb : Option Addr} {la lb ca cb : Nat} {da db : List Int}
theorem divMade (hH : Hold w X na false pa pb la lb ca cb da db) (hs : X.heap.size = w.heap.size + 1 + 1) :
    Hold w ((X.alloc (Obj.cells #[Value.bool false, Value.slice none 0 0] 79)).alloc (Obj.cells #[Value.bool false, Value.slice none 0 0] 79)) na false pa pb la lb ca cb da db ∧
    Box ((X.alloc (Obj.cells #[Value.bool false, Value.slice none 0 0] 79)).alloc (Obj.cells #[Value.bool false, Value.slice none 0 0] 79)) (w.heap.size + 1 + 1) ∧
    Box ((X.alloc (Obj.cells #[Value.bool false, Value.slice none 0 0] 79)).alloc (Obj.cells #[Value.bool false, Value.slice none 0 0] 79)) (w.heap.size + 1 + 1 + 1) ∧
    ((X.alloc (Obj.cells #[Value.bool false, Value.slice none 0 0] 79)).alloc (Obj.cells #[Value.bool false, Value.slice none 0 0] 79)).cell? ⟨w.heap.size + 1 + 1 + 1, 0, none⟩ = some (.bool false) ∧
    ((X.alloc (Obj.cells #[Value.bool false, Value.slice none 0 0] 79)).alloc (Obj.cells #[Value.bool false, Value.slice none 0 0] 79)).cell? ⟨w.heap.size + 1 + 1 + 1, 1, none⟩ = some (.slice none 0 0) := by
  have b1 := (Box.made X false none 0 0).stays ((Below.refl _ _).alloc (Nat.le_refl _) (Obj.cells #[Value.bool false, Value.slice none 0 0] 79))
  have b2 := Box.made (X.alloc (Obj.cells #[Value.bool false, Value.slice none 0 0] 79)) false none 0 0
  have e2 := heap_alloc_new (X.alloc (Obj.cells #[Value.bool false, Value.slice none 0 0] 79)) (Obj.cells #[Value.bool false, Value.slice none 0 0] 79)
  simp only [World.size_alloc] at b2 e2
  rw [hs] at b1 b2 e2
  refine ⟨(hH.kept ((Below.refl _ _).alloc (Nat.le_refl _) _)).kept ((Below.refl _ _).alloc (Nat.le_refl _) _), b1, b2, ?_, ?_⟩
  · rw [cell_of_row _ _ 0 _ 79 (0, 0) e2]; rfl
  · rw [cell_of_row _ _ 1 _ 79 (0, 0) e2]; rfl
theorem divMade1 (hH : Hold w X na false pa pb la lb ca cb da db) (b1 : Box X (w.heap.size + 1 + 1)) (b2 : Box X (w.heap.size + 1 + 1 + 1)) (c0 : X.cell? ⟨w.heap.size + 1 + 1 + 1, 0, none⟩ = some (.bool false)) (c1 : X.cell? ⟨w.heap.size + 1 + 1 + 1, 1, none⟩ = some (.slice none 0 0)) (L : Nat) :
    DivSt w ((X.alloc (Obj.cells (zrow la) 3)).alloc (Obj.cells #[Value.bool na, Value.slice (some ⟨X.heap.size, 0, none⟩) la la] 79)) na pa pb la lb ca cb da db (X.heap.size + 1) X.heap.size (List.replicate la 0) L 0 false none 0 0 := by
  have hB : Below X.heap.size X ((X.alloc (Obj.cells (zrow la) 3)).alloc (Obj.cells #[Value.bool na, Value.slice (some ⟨X.heap.size, 0, none⟩) la la] 79)) := ((Below.refl _ _).alloc (Nat.le_refl _) _).alloc (by simp) _
  have hr := (ORow.made X la).kept ((Below.refl _ _).alloc (Nat.le_refl _) (Obj.cells #[Value.bool na, Value.slice (some ⟨X.heap.size, 0, none⟩) la la] 79))
  have hq := Box.made (X.alloc (Obj.cells (zrow la) 3)) na (some ⟨X.heap.size, 0, none⟩) la la
  simp only [World.size_alloc] at hq
  have l2 := b2.lt
  exact ⟨hH.kept hB, b1.stays hB, b2.stays hB, (hB.cell (p := ⟨w.heap.size + 1 + 1 + 1, 0, none⟩) l2).trans c0, (hB.cell (p := ⟨w.heap.size + 1 + 1 + 1, 1, none⟩) l2).trans c1, ⟨false, none, 0, 0, [], rfl, DRow.nil _ _, Nat.le_refl _, fun _ => rfl, Nat.zero_le _, rfl, fun _ => rfl, by omega⟩, (fun _ _ h => by cases h),
    by go_simp, by rw [List.length_replicate]; go_simp, hq, hr, by omega, by omega, by omega⟩
theorem divMade2 (hH : Hold w X na false pa pb la lb ca cb da db) (b1 : Box X (w.heap.size + 1 + 1)) (b2 : Box X (w.heap.size + 1 + 1 + 1)) (c0 : X.cell? ⟨w.heap.size + 1 + 1 + 1, 0, none⟩ = some (.bool false)) (c1 : X.cell? ⟨w.heap.size + 1 + 1 + 1, 1, none⟩ = some (.slice none 0 0)) (L : Nat) :
    DivSt w ((X.alloc (Obj.cells #[Value.bool na, Value.slice (some ⟨X.heap.size + 1, 0, none⟩) la la] 79)).alloc (Obj.cells (zrow la) 3)) na pa pb la lb ca cb da db X.heap.size (X.heap.size + 1) (List.replicate la 0) L 0 false none 0 0 := by
  have hB : Below X.heap.size X ((X.alloc (Obj.cells #[Value.bool na, Value.slice (some ⟨X.heap.size + 1, 0, none⟩) la la] 79)).alloc (Obj.cells (zrow la) 3)) := ((Below.refl _ _).alloc (Nat.le_refl _) _).alloc (by simp) _
  have hr := ORow.made (X.alloc (Obj.cells #[Value.bool na, Value.slice (some ⟨X.heap.size + 1, 0, none⟩) la la] 79)) la
  have hq := (Box.made X na (some ⟨X.heap.size + 1, 0, none⟩) la la).stays ((Below.refl _ _).alloc (Nat.le_refl _) (Obj.cells (zrow la) 3))
  simp only [World.size_alloc] at hr
  have l2 := b2.lt
  exact ⟨hH.kept hB, b1.stays hB, b2.stays hB, (hB.cell (p := ⟨w.heap.size + 1 + 1 + 1, 0, none⟩) l2).trans c0, (hB.cell (p := ⟨w.heap.size + 1 + 1 + 1, 1, none⟩) l2).trans c1, ⟨false, none, 0, 0, [], rfl, DRow.nil _ _, Nat.le_refl _, fun _ => rfl, Nat.zero_le _, rfl, fun _ => rfl, by omega⟩, (fun _ _ h => by cases h),
    by go_simp, by rw [List.length_replicate]; go_simp, hq, hr, by omega, by omega, by omega⟩
end

set_option maxRecDepth 100000 in
set_option maxHeartbeats 8000000 in
theorem div_walk (na up : Bool) (pa pb : Option Addr) (la lb ca cb : Nat) (da db : List Int) (V Vb : Int) (w : World) (ha : DRow w pa la da) (hb : DRow w pb lb db) (hla : la ≤ 100) (hlb : lb ≤ 100)
    (hlbc : lb ≤ cb) (hpb : pb = none → cb = 0) (hzb : 0 < lb → dg db (lb - 1) ≠ 0) (hV : val da = V) (hVb : val db = Vb) (hpos : 0 < Vb) :
    Calls Tryz.prog 95 #[.agg #[.bool na, .slice pa la ca], .agg #[.bool false, .slice pb lb cb], .bool up] w (RetB w (la + 6) (divR (sgB na V) Vb up)) := by
  have fa := Lib.hid ha.2.1
  have fb := Lib.hid hb.2.1
  have la' := Lib.hid ha.1
  have lb' := Lib.hid hb.1
  have hbB : ∀ W, Below w.heap.size w W → IsB W (.agg #[.bool false, .slice pb lb cb]) lb Vb := fun W hW =>
    ⟨false, pb, lb, cb, db, rfl, hb.kept hW, hlbc, hpb, Nat.le_refl _, by rw [hVb]; rfl, fun _ => rfl, hzb⟩
  replace hbB := Lib.hid hbB
  have hVlt : Vb < pw lb := by rw [← hVb, ← lb'.out]; exact (val_bd fb.out).2
  replace hVlt := Lib.hid hVlt
  have hH0 := Lib.hid (Hold.made (na := na) (nb := false) (ca := ca) (cb := cb) ha hb)
  replace hV := Lib.hid hV
  replace hVb := Lib.hid hVb
  clear ha hb hpb hzb
  have hmk := make_ints la (by omega)
  go_enter Tryz.func95, Tryz.ntmps95
  go_upto_region 2 with (fail)
  go_cut [8] (fun s wc => ∃ o g : Nat, s = .pointer (some ⟨o, 0, none⟩) ∧ DivSt w wc na pa pb la lb ca cb da db o g (List.replicate la 0) lb 0 false none 0 0)
  case first =>
    go_region
    all_goals
      go_wp2_with fail
      go_meet
    all_goals
      obtain ⟨m0, m1, m2, m3, m4⟩ := divMade hH0.out (by simp)
    · have hx := divMade1 m0 m1 m2 m3 m4 lb
      simp only [World.size_alloc] at hx
      exact ⟨_, _, rfl, hx.drew⟩
    · have hx := divMade2 m0 m1 m2 m3 m4 lb
      simp only [World.size_alloc] at hx
      exact ⟨_, _, rfl, hx.drew⟩
  case rest =>
    obtain ⟨o, g, rfl, hD0⟩ := hcut
    have hinv0 := DivInv.first (dg da) la Vb hpos
    obtain ⟨z0, z1, z2, z3⟩ := hD0.hold.two
    replace hD0 := Lib.hid hD0
    replace hinv0 := Lib.hid hinv0
    clear hmk
    go_upto_block 0 with (fail)
    clear z0 z1 z2 z3
    go_cut [9] (fun _ wc' => ∃ (qs : List Int) (R : Int) (nr : Bool) (pr : Option Addr) (lr cr : Nat), DivInv (dg da) V Vb la 0 qs R ∧ DivSt w wc' na pa pb la lb ca cb da db o g qs lb R nr pr lr cr)
    case first =>
      go_wp2_with fail
      go_loopw [9] (fun s wr => ∃ (k : Nat) (qs : List Int) (R : Int) (nr : Bool) (pr : Option Addr) (lr cr : Nat), k ≤ la ∧ s = .int .i64 ((k : Int) - 1) ∧ DivInv (dg da) V Vb la k qs R ∧ DivSt w wr na pa pb la lb ca cb da db o g qs lb R nr pr lr cr) (fun s _ => (intOf s + 1).toNat)
      case atStart =>
        refine ⟨la, _, _, _, _, _, _, Nat.le_refl _, rfl, ?_, hD0.out⟩
        have := hinv0.out
        rw [show dv (dg da) la = V from by rw [← hV.out, ← la'.out]; rfl] at this
        exact this
      case round =>
        clear hD0 hinv0
        obtain ⟨k, qs, R, nr, pr, lr, cr, hk, rfl, inv, hD⟩ := hrel
        cases k with
        | zero =>
          replace inv := Lib.hid inv
          replace hD := Lib.hid hD
          go_wp2_with fail
          go_meet
          exact ⟨qs, R, nr, pr, lr, cr, inv.out, hD.out⟩
        | succ j =>
          have ej : ((j + 1 : Nat) : Int) - 1 = (j : Int) := by omega
          rw [ej]
          clear ej
          have hx := fa.out j
          have r0 := inv.R0
          obtain ⟨ds, hds, hlr, hvr, hlc, hpc, hzr⟩ := hD.rB.digits r0
          obtain ⟨ba, offa, rfl, hbal, hca⟩ := hD.hold.a.2.2.resolve_left (by omega)
          have hcell := hca j (by omega)
          obtain ⟨g', c', w', hrun, hrow', hlc', hbel', hg'⟩ := append_front wr.drew (dg da j) pr lr cr ds hx.1 hx.2 hds (by omega) (fun h => by have := hpc h; omega)
          have hrun' : Hid ((Builtin.append_ #[35, 35] 35 #[.slice (some ⟨wr.heap.size, 0, none⟩) 1 1, .slice pr lr cr]).run Tryz.prog (wr.alloc (.cells #[.int .i64 (dg da j)] 3)).drew = .ok (.slice (some ⟨g', 0, none⟩) (lr + 1) c') w') := hrun
          have hD1 := hD.drew.kept hbel'
          have t1 := hD.hold.two.2.1
          have q1 := hD.r1
          have hglt : g < wr.heap.size := hD.row.lt
          have hs3 := hD.rbox.lt
          have hs2 : w.heap.size + 1 < wr.heap.size := by omega
          have hs1 : w.heap.size < wr.heap.size := by omega
          have hg2 : wr.heap.size ≤ g' := hg'
          have hval : val (dg da j :: ds) = 10000 * R + dg da j := by rw [val_cons, hvr]; omega
          replace hval := Lib.hid hval
          replace hrow' := Lib.hid hrow'
          replace hD := Lib.hid hD
          replace hD1 := Lib.hid hD1
          replace inv := Lib.hid inv
          clear hrun hca hds hvr hzr hpc hbel' hg'
          have b3 : (0 : Int) ≤ (j : Int) := by omega
          have b4 : (j : Int) < (la : Int) := by omega
          generalize hxx : dg da j = x at *
          replace hxx := Lib.hid hxx
          go_upto_region 6 with (fail)
          go_cut [] (fun wc' => ∃ (nr' : Bool) (pr' : Option Addr) (lr' cr' : Nat), DivSt w wc' na (some ⟨ba, offa, none⟩) pb la lb ca cb da db o g qs (lb + 1) (10000 * R + x) nr' pr' lr' cr')
          case first =>
            go_region_law (first
              | (refine step_app rfl _ _ _ _ rfl _ _ _ _ rfl rfl hrun'.out ?_)
              | (go_simp; go_at_call 57; (with_reducible refine (trim_full false (some ⟨g', 0, none⟩) (lr + 1) c' (x :: ds) w' ?_ ?_ ?_ ?_).mono ?_); exact hrow'.out; exact hlc'; (intro h; cases h); omega
                 rintro e w2 ⟨nn, pp, ll, cc, dd, rfl, hr2, hl2, hp2, hle2, hN2, hz2, hb2, hsame⟩
                 have hD2 := hD1.out.kept hb2; have u0 := hD2.r0; have u1 := hD2.r1; obtain ⟨y0, y1, y2, y3, y4, y5, y6, y7⟩ := hD2.rbox.cells
                 have hB2 : Hid (IsB w2 (.agg #[.bool nn, .slice pp ll cc]) (lb + 1) (10000 * R + x)) := ⟨nn, pp, ll, cc, dd, rfl, hr2, hl2, hp2, Nat.le_trans hle2 (by omega), by rw [hN2, hval.out]; rfl, hz2⟩
                 have hne2 : Hid (∀ b off, pp = some ⟨b, off, none⟩ → b ≠ g) := (fun b off h => by rcases hsame with h3 | h3 <;> rw [h3] at h <;> simp at h; omega)
                 replace hD2 := Lib.hid hD2; clear hr2 hl2 hp2 hN2 hz2 hb2 hsame))
            all_goals
              go_wp2_with fail
              go_meet
              exact ⟨nn, pp, ll, cc, hD2.out.put hB2.out hne2.out⟩
          case rest =>
            clear hrun' hD hD1 hrow' hlc' t1 q1 hglt hg2 hval hcell hbal hs1 hs2 hs3
            obtain ⟨nr', pr', lr', cr', hD⟩ := hcut
            replace hD := Lib.hid hD
            go_upto_block 2 with (fail)
            go_wp2_with fail
            have k0 := hD.out.r0
            have k1 := hD.out.r1
            have k2 := hD.out.hold.two.2.2.1
            have k3 := hD.out.hold.two.2.2.2
            obtain ⟨dr, hdr, hlr', hvr, _, _, _⟩ := hD.out.rB.digits (show 0 ≤ 10000 * R + x by omega)
            by_cases hge : 10000 * R + x < Vb
            · refine wp_loop_rounds 1 ?_
              rw [rounds_succ]
              have hc : Hid (cmp3 (val dr) (val db) = -1) := by
                show _ = _
                rw [hvr, hVb.out]
                unfold cmp3
                rw [if_neg (by omega), if_pos hge]
              have hinv' := inv.out.skip fa.out (by rw [hxx.out]; exact hge)
              rw [hxx.out] at hinv'
              replace hinv' := Lib.hid hinv'
              replace hdr := Lib.hid hdr
              clear hvr
              go_wp2_with fail
              refine (larger_any nr' false pr' pb lr' lb cr' cb dr db _ hdr.out hD.out.hold.b (by omega) (by omega)).mono ?_
              rintro e w3 ⟨rfl, hb3⟩
              rw [hc.out]
              have hD3 := Lib.hid (hD.out.kept hb3)
              clear k0 k1 k2 k3 hb3
              go_wp2_with fail
              have hD4 := hD3.out
              have hD5 := { hD4 with rB := hD4.rB.short (by omega) (by have := hVlt.out; omega) : DivSt w w3 na (some ⟨ba, offa, none⟩) pb la lb ca cb da db o g qs lb (10000 * R + x) nr' pr' lr' cr' }
              exact ⟨⟨j, qs, 10000 * R + x, nr', pr', lr', cr', by omega, rfl, hinv'.out, hD5⟩, by simp [intOf]⟩
            · refine wp_loop_rounds 2 ?_
              rw [rounds_succ]
              have hc : Hid (¬ cmp3 (val dr) (val db) < 0) := by
                show ¬ _
                rw [hvr, hVb.out]
                unfold cmp3
                split
                · decide
                · first | decide | (rw [if_neg hge]; decide)
              replace hdr := Lib.hid hdr
              replace hvr := Lib.hid hvr
              go_wp2_with fail
              refine (larger_any nr' false pr' pb lr' lb cr' cb dr db _ hdr.out hD.out.hold.b (by omega) (by omega)).mono ?_
              rintro e w3 ⟨rfl, hb3⟩
              have hD3 := Lib.hid (hD.out.kept hb3)
              have hc' := hc.out
              generalize cmp3 (val dr) (val db) = cm at *
              clear k0 k1 k2 k3 hb3 hD hdr hvr hc
              obtain ⟨S, hS⟩ : ∃ S, S = 10000 * R + x := ⟨_, rfl⟩
              rw [← hS] at hD3
              rw [← hS] at hge
              have hS0 : 0 ≤ S := by omega
              replace hS := Lib.hid hS
              go_wp2_with fail
              clear hc'
              go_loopw [10, 11] (fun l h wr' => ∃ lo hi : Int, l = .int .i64 lo ∧ h = .int .i64 hi ∧ 1 ≤ lo ∧ lo < hi ∧ hi ≤ 10000 ∧ (lo * Vb ≤ S ∧ S < hi * Vb) ∧ DivSt w wr' na (some ⟨ba, offa, none⟩) pb la lb ca cb da db o g qs (lb + 1) S nr' pr' lr' cr') (fun l h _ => (intOf h - intOf l).toNat)
              case atStart =>
                refine ⟨1, 10000, rfl, rfl, by omega, by omega, by omega, ⟨by omega, ?_⟩, hD3.out⟩
                have r1 := inv.out.R1
                have := hS.out
                omega
              case round =>
                clear hD3
                obtain ⟨lo, hi, rfl, rfl, l1, l2, l3, hbr, hD⟩ := hrel
                by_cases hend : hi - lo > 1
                · obtain ⟨mid, hmid⟩ : ∃ mid, mid = (lo + hi) / 2 := ⟨_, rfl⟩
                  have m1 : lo < mid := by omega
                  have m2 : mid < hi := by omega
                  have k0 := hD.r0
                  have k1 := hD.r1
                  have k3 := hD.hold.two.2.2.2
                  have hmv : 0 ≤ mid * Vb := Int.mul_nonneg (by omega) (by omega)
                  replace hD := Lib.hid hD
                  replace hmid := Lib.hid hmid
                  replace hbr := Lib.hid hbr
                  go_upto_region 12 with (fail)
                  rw [← hmid.out]
                  go_region_held3 (fun w' => w'.cell? ⟨w.heap.size + 1, 1, none⟩ = some (.slice pb lb cb) ∧ w'.cell? ⟨w.heap.size + 1 + 1 + 1, 0, none⟩ = some (.bool nr') ∧ w'.cell? ⟨w.heap.size + 1 + 1 + 1, 1, none⟩ = some (.slice pr' lr' cr'))
                    (first | exact ⟨k3, k0, k1⟩ | exact ⟨hD1.out.hold.two.2.2.2, hD1.out.r0, hD1.out.r1⟩ | exact ⟨hD2.out.hold.two.2.2.2, hD2.out.r0, hD2.out.r1⟩ | exact ⟨hD4.out.hold.two.2.2.2, hD4.out.r0, hD4.out.r1⟩)
                    (first
                      | (go_at_call 30; (with_reducible refine (of_any mid _ ?_ ?_).mono ?_); omega; omega; rintro e w1 ⟨v1, rfl, hv1, hb1⟩; have hD1 := Lib.hid (hD.out.drew.kept hb1); replace hv1 := Lib.hid hv1; clear hb1)
                      | (go_at_call 94; (with_reducible refine (mulB_any _ _ 5 lb mid Vb _ ?_ ?_ ?_ ?_).mono ?_); exact hv1.out; exact (hbB.out _ hD1.out.hold.bel); omega; omega; rintro e w2 ⟨v2, rfl, hv2, hb2⟩; have hD2 := Lib.hid (hD1.out.kept hb2); obtain ⟨n2, p2, l2, c2, d2, rfl, hv2'⟩ := hv2; obtain ⟨ds2, hr2, hl2, hval2, -, -, -⟩ := (show IsB w2 (.agg #[.bool n2, .slice p2 l2 c2]) (5 + lb + 1) (mid * Vb) from ⟨n2, p2, l2, c2, d2, rfl, hv2'⟩).digits hmv
                         replace hr2 := Lib.hid hr2; replace hval2 := Lib.hid hval2; clear hb2 hv2'; obtain ⟨ds3, hr3, hl3, hval3, -, -, -⟩ := hD2.out.rB.digits hS0; replace hr3 := Lib.hid hr3; replace hval3 := Lib.hid hval3)
                      | (go_at_call 58; (with_reducible refine (larger_any n2 nr' p2 pr' l2 lr' c2 cr' ds2 ds3 _ ?_ ?_ ?_ ?_).mono ?_); exact hr2.out; exact hr3.out; omega; omega; rintro e w4 ⟨rfl, hb4⟩; rw [hval2.out, hval3.out]; have hD4 := Lib.hid (hD2.out.kept hb4); clear hb4))
                  clear k0 k1 k3
                  by_cases hle : mid * Vb ≤ S
                  · have hc : cmp3 (mid * Vb) S ≤ 0 := by unfold cmp3; rw [if_neg (by omega)]; split <;> decide
                    generalize cmp3 (mid * Vb) S = cm at *
                    go_wp2_with fail
                    exact ⟨⟨mid, hi, rfl, rfl, by omega, by omega, by omega, ⟨hle, hbr.out.2⟩, hD4.out⟩, by simp [intOf]; omega⟩
                  · have hc : ¬ cmp3 (mid * Vb) S ≤ 0 := by unfold cmp3; rw [if_pos (by omega)]; decide
                    generalize cmp3 (mid * Vb) S = cm at *
                    go_wp2_with fail
                    exact ⟨⟨lo, mid, rfl, rfl, by omega, by omega, by omega, ⟨hbr.out.1, by omega⟩, hD4.out⟩, by simp [intOf]; omega⟩
                · have hlo : S < lo * Vb + Vb := by
                    have : hi = lo + 1 := by omega
                    have h3 := hbr.2
                    rw [this, Int.add_mul, Int.one_mul] at h3
                    exact h3
                  obtain ⟨hinv', hd9⟩ := inv.out.digit fa.out (show j < la by omega) lo (by omega) (by rw [hxx.out, ← hS.out]; exact hbr.1) (by rw [hxx.out, ← hS.out]; exact hlo)
                  rw [hxx.out, ← hS.out] at hinv'
                  have hql := inv.out.len
                  have q1 := hD.q1
                  rw [hql] at q1
                  have qc := hD.row.cell (i := j) (by rw [hql]; omega)
                  have qf := hD.row.free (i := j)
                  replace hinv' := Lib.hid hinv'
                  replace hbr := Lib.hid hbr
                  replace hD := Lib.hid hD
                  clear hql
                  go_upto_region 15 with (fail)
                  go_cut [] (fun wc' => DivSt w wc' na (some ⟨ba, offa, none⟩) pb la lb ca cb da db o g (qs.set j lo) (lb + 1) S nr' pr' lr' cr')
                  case first =>
                    go_wp2_with fail
                    go_meet
                    exact hD.out.set j lo
                  case rest =>
                    clear hD q1 qc qf
                    have hD := hcut
                    have k0 := hD.r0
                    have k1 := hD.r1
                    have k3 := hD.hold.two.2.2.2
                    replace hD := Lib.hid hD
                    have hrest : 0 ≤ S + -(lo * Vb) ∧ S + -(lo * Vb) < Vb := by have := hbr.out.1; omega
                    go_upto_region 16 with (fail)
                    go_region_with (first
                      | (go_at_call 30; (with_reducible refine (of_any lo _ ?_ ?_).mono ?_); omega; omega; rintro e w1 ⟨v1, rfl, hv1, hb1⟩; have hD1 := hD.out.drew.kept hb1; have u0 := hD1.r0; have u1 := hD1.r1; have u3 := hD1.hold.two.2.2.2; replace hD1 := Lib.hid hD1; replace hv1 := Lib.hid hv1; clear hb1)
                      | (go_at_call 94; (with_reducible refine (mulB_any _ _ 5 lb lo Vb _ ?_ ?_ ?_ ?_).mono ?_); exact hv1.out; exact (hbB.out _ hD1.out.hold.bel); omega; omega; rintro e w2 ⟨v2, rfl, hv2, hb2⟩; have hD2 := hD1.out.kept hb2; have u4 := hD2.r0; have u5 := hD2.r1; replace hD2 := Lib.hid hD2; replace hv2 := Lib.hid hv2; clear hb2)
                      | (go_at_call 78; (with_reducible refine (turned_any _ (5 + lb + 1) (lo * Vb) _ ?_ ?_).mono ?_); exact hv2.out; omega; rintro e w3 ⟨v3, rfl, hv3, hb3⟩; have hD3 := hD2.out.kept hb3; have u6 := hD3.r0; have u7 := hD3.r1; replace hD3 := Lib.hid hD3; replace hv3 := Lib.hid hv3; clear hb3)
                      | (go_at_call 29; (with_reducible refine (addF_any _ _ (5 + lb + 1) S (-(lo * Vb)) _ ?_ ?_ ?_).mono ?_); exact (hD3.out.rB.wide (by omega)); exact hv3.out; omega
                         rintro e w4 ⟨nn, pp, ll, cc, dd, rfl, hr4, hl4, hp4, hle4, hN4, hz4, hb4, hfresh⟩
                         have hD4 := hD3.out.kept hb4; have hglt := hD3.out.row.lt; obtain ⟨y0, y1, y2, y3, y4, y5, y6, y7⟩ := hD4.rbox.cells
                         have hB4 : Hid (IsB w4 (.agg #[.bool nn, .slice pp ll cc]) lb (S + -(lo * Vb))) := (show IsB w4 (.agg #[.bool nn, .slice pp ll cc]) (5 + lb + 1 + 1) (S + -(lo * Vb)) from ⟨nn, pp, ll, cc, dd, rfl, hr4, hl4, hp4, hle4, hN4, hz4⟩).short hrest.1 (Int.lt_trans hrest.2 hVlt.out)
                         have hne4 : Hid (∀ b off, pp = some ⟨b, off, none⟩ → b ≠ g) := (fun b off h => by have := hfresh b off h; omega)
                         replace hD4 := Lib.hid hD4; clear hr4 hl4 hp4 hle4 hN4 hz4 hb4 hfresh))
                    all_goals
                      have hD5 := hD4.out.put hB4.out hne4.out
                      obtain ⟨W5, hW5⟩ : ∃ W5, W5 = ((w4.setCell ⟨w.heap.size + 1 + 1 + 1, 0, none⟩ (.bool nn)).setCell ⟨w.heap.size + 1 + 1 + 1, 1, none⟩ (.slice pp ll cc)) := ⟨_, rfl⟩
                      rw [← hW5] at hD5
                      rw [← hW5]
                      replace hW5 := Lib.hid hW5
                      clear k0 k1 k3 u0 u1 u3 u4 u5 u6 u7 y4 y5 y6 y7
                      have k0 := hD5.r0
                      have k1 := hD5.r1
                      have k2 := hD5.hold.two.2.2.1
                      have k3 := hD5.hold.two.2.2.2
                      obtain ⟨dr5, hdr5, hlr5, hvr5, -, -, -⟩ := hD5.rB.digits hrest.1
                      have hc5 : Hid (cmp3 (val dr5) (val db) = -1) := by
                        show _ = _
                        rw [hvr5, hVb.out]
                        unfold cmp3
                        rw [if_neg (by omega), if_pos hrest.2]
                      replace hdr5 := Lib.hid hdr5
                      replace hD5 := Lib.hid hD5
                      clear hvr5
                      first
                        | rw [rounds_succ]
                        | (go_wp2_with fail; rw [rounds_succ])
                        | (change Code.rounds _ _ _ 1 _ _; rw [rounds_succ])
                      go_wp2_with fail
                      refine (larger_any nn false pp pb ll lb cc cb dr5 db _ hdr5.out hD5.out.hold.b (by omega) (by omega)).mono ?_
                      rintro e w6 ⟨rfl, hb6⟩
                      rw [hc5.out]
                      have hD6 := Lib.hid (hD5.out.kept hb6)
                      clear k0 k1 k2 k3 hb6
                      go_wp2_with fail
                      exact ⟨⟨j, qs.set j lo, S + -(lo * Vb), nn, pp, ll, cc, by omega, rfl, by rw [← Int.sub_eq_add_neg]; exact hinv'.out, hD6.out⟩, by simp [intOf]⟩
    case rest =>
      clear hD0 hinv0
      obtain ⟨qs, R, nr, pr, lr, cr, inv, hD⟩ := hcut
      have hfin := inv.last
      have r0 := inv.R0
      have r1 := inv.R1
      have hql := inv.len
      have hqd := inv.digs
      have q0 := hD.q0
      have q1 := hD.q1
      rw [hql] at q1
      have hqrow := hD.row.drow hqd
      rw [hql] at hqrow
      have hres := Lib.hid (divR_of (na := na) hfin r0 r1 up)
      obtain ⟨ds, hds, hlr, hvr, hlc, hpc, hzr⟩ := hD.rB.digits r0
      have hsg : (lr = 0 ∧ R = 0) ∨ (0 < lr ∧ 0 < R) := by
        rcases sign_of (neg := false) hds.1 hds.2.1 (N := R) (by rw [hvr]; rfl) ⟨fun _ => rfl, hzr⟩ with ⟨a, b⟩ | ⟨a, b, c⟩ | ⟨a, b, c⟩
        · exact .inl ⟨a, b⟩
        · cases b
        · exact .inr ⟨a, c⟩
      replace hqrow := Lib.hid hqrow
      replace hD := Lib.hid hD
      clear hds hvr hzr hpc hql hqd hfin inv
      go_upto_region 17 with (fail)
      go_cut [] (fun W1 => ∃ (nq : Bool) (pq : Option Addr) (lq cq : Nat), W1.cell? ⟨o, 0, none⟩ = some (.bool nq) ∧ W1.cell? ⟨o, 1, none⟩ = some (.slice pq lq cq) ∧ W1.cell? ⟨w.heap.size, 0, none⟩ = some (.bool na) ∧ W1.cell? ⟨w.heap.size + 1 + 1 + 1, 1, none⟩ = some (.slice pr lr cr) ∧
        Box W1 (w.heap.size + 1 + 1) ∧ w.heap.size + 1 + 1 < o ∧ Box W1 o ∧ IsB W1 (.agg #[.bool nq, .slice pq lq cq]) la (sgB na (val qs)) ∧ Below w.heap.size w W1)
      case first =>
        go_wp2_with fail
        refine (trim_full na (some ⟨g, 0, none⟩) la la qs _ hqrow.out (Nat.le_refl _) (by intro h; cases h) (by omega)).mono ?_
        rintro e w1 ⟨nq, pq, lq, cq, dq, rfl, hr1, hl1, hp1, hle1, hN1, hz1, hb1, -⟩
        have hD1 := hD.out.kept hb1
        obtain ⟨x0, x1, x2, x3, y0, y1, y2, y3⟩ := hD1.qbox.cells
        have hB1 : IsB w1 (.agg #[.bool nq, .slice pq lq cq]) la (sgB na (val qs)) := ⟨nq, pq, lq, cq, dq, rfl, hr1, hl1, hp1, hle1, hN1, hz1⟩
        have t0 := hD1.hold.two.1
        have t1 := hD1.r1
        have o3 := hD1.o3
        have hos := hD1.qbox.lt
        replace hB1 := Lib.hid hB1
        replace hD1 := Lib.hid hD1
        clear hr1 hl1 hp1 hle1 hN1 hz1 hb1 q0 q1
        have n1 : w.heap.size ≠ o := by omega
        have n2 : w.heap.size + 1 + 1 + 1 ≠ o := by omega
        go_wp2_with fail
        go_meet
        have hP := Acc.put (b := o) (r := w.heap.size + 1 + 1) hD1.out.qbox hD1.out.res (by omega) hB1.out
        exact ⟨nq, pq, lq, cq, hP.c0, hP.c1, by go_simp, by go_simp, hP.res, by omega, hP.box, hP.isB, (hD1.out.hold.bel.setCell (by simp; omega) _).setCell (by simp; omega) _⟩
      case rest =>
        obtain ⟨nq, pq, lq, cq, c0, c1, t0, t1, hR, ho2, hO, hB, hW⟩ := hcut
        replace hR := Lib.hid hR
        replace hO := Lib.hid hO
        replace hB := Lib.hid hB
        replace hW := Lib.hid hW
        clear q0 q1 hD hqrow
        obtain ⟨x0, x1, x2, x3, y0, y1, y2, y3⟩ := hR.out.cells
        rcases hsg with ⟨hl0, hR0⟩ | ⟨hl0, hR0⟩
        · subst hl0
          subst hR0
          cases na <;> cases up
          all_goals
            go_wp2_with fail
            refine bodyPost_ret (v := .agg #[.bool nq, .slice pq lq cq]) (by simp [results, Tryz.results95, go_sem, y0, y1]) rfl ⟨_, rfl, ?_, (hW.out.setCell (by simp; omega) _).setCell (by simp; omega) _⟩
            rw [hres.out]
            simp
            exact (hB.out.store hR.out _ _).wide (by omega)
        · have hli : (0 : Int) < (lr : Int) := by omega
          cases na <;> cases up
          · go_wp2_with fail
            refine bodyPost_ret (v := .agg #[.bool nq, .slice pq lq cq]) (by simp [results, Tryz.results95, go_sem, y0, y1]) rfl ⟨_, rfl, ?_, (hW.out.setCell (by simp; omega) _).setCell (by simp; omega) _⟩
            rw [hres.out]
            simp
            exact (hB.out.store hR.out _ _).wide (by omega)
          · go_upto_region 19 with (fail)
            go_region_with (first
              | (go_at_call 30; (with_reducible refine (of_any 1 _ ?_ ?_).mono ?_); decide; decide; rintro e w1 ⟨v1, rfl, hv1, hb1⟩; have d0 := (hb1.cell (p := ⟨o, 0, none⟩) hO.out.lt).trans c0; have d1 := (hb1.cell (p := ⟨o, 1, none⟩) hO.out.lt).trans c1; have hB1 := Lib.hid (hB.out.kept (undrew hb1)); have hW1 := Lib.hid (hW.out.trans ((undrew hb1).mono hW.out.size)); have hR1 := Lib.hid (hR.out.stays (undrew hb1)); replace hv1 := Lib.hid hv1; clear hb1)
              | (go_at_call 29; (with_reducible refine (addB_any _ _ (la + 5) (sgB false (val qs)) 1 _ ?_ ?_ ?_).mono ?_); exact (hB1.out.wide (by omega)); exact (hv1.out.wide (by omega)); omega; rintro e w2 ⟨v2, rfl, hv2, hb2⟩; obtain ⟨n2, p2, l2, c2, d2, rfl, hv3⟩ := hv2
                 have hB2 : Hid (IsB w2 (.agg #[.bool n2, .slice p2 l2 c2]) (la + 6) (sgB false (val qs) + 1)) := ⟨n2, p2, l2, c2, d2, rfl, hv3⟩; have hW2 := Lib.hid (hW1.out.trans (hb2.mono hW1.out.size)); have hR2 := hR1.out.stays hb2; obtain ⟨z0, z1, z2, z3, e0, e1, e2, e3⟩ := hR2.cells; replace hR2 := Lib.hid hR2; clear hb2 hv3))
            all_goals
              clear c0 c1 t0 t1 d0 d1 y0 y1 y2 y3
              go_wp2_with fail
              refine bodyPost_ret (v := .agg #[.bool n2, .slice p2 l2 c2]) (by simp [results, Tryz.results95, go_sem, e0, e1]) rfl ⟨_, rfl, ?_, (hW2.out.setCell (by simp; omega) _).setCell (by simp; omega) _⟩
              rw [hres.out]
              simp [hR0]
              exact hB2.out.store hR2.out _ _
          · go_upto_region 21 with (fail)
            go_region_with (first
              | (go_at_call 30; (with_reducible refine (of_any (-1) _ ?_ ?_).mono ?_); decide; decide; rintro e w1 ⟨v1, rfl, hv1, hb1⟩; have d0 := (hb1.cell (p := ⟨o, 0, none⟩) hO.out.lt).trans c0; have d1 := (hb1.cell (p := ⟨o, 1, none⟩) hO.out.lt).trans c1; have hB1 := Lib.hid (hB.out.kept (undrew hb1)); have hW1 := Lib.hid (hW.out.trans ((undrew hb1).mono hW.out.size)); have hR1 := Lib.hid (hR.out.stays (undrew hb1)); replace hv1 := Lib.hid hv1; clear hb1)
              | (go_at_call 29; (with_reducible refine (addB_any _ _ (la + 5) (sgB true (val qs)) (-1) _ ?_ ?_ ?_).mono ?_); exact (hB1.out.wide (by omega)); exact (hv1.out.wide (by omega)); omega; rintro e w2 ⟨v2, rfl, hv2, hb2⟩; obtain ⟨n2, p2, l2, c2, d2, rfl, hv3⟩ := hv2
                 have hB2 : Hid (IsB w2 (.agg #[.bool n2, .slice p2 l2 c2]) (la + 6) (sgB true (val qs) + (-1))) := ⟨n2, p2, l2, c2, d2, rfl, hv3⟩; have hW2 := Lib.hid (hW1.out.trans (hb2.mono hW1.out.size)); have hR2 := hR1.out.stays hb2; obtain ⟨z0, z1, z2, z3, e0, e1, e2, e3⟩ := hR2.cells; replace hR2 := Lib.hid hR2; clear hb2 hv3))
            all_goals
              clear c0 c1 t0 t1 d0 d1 y0 y1 y2 y3
              go_wp2_with fail
              refine bodyPost_ret (v := .agg #[.bool n2, .slice p2 l2 c2]) (by simp [results, Tryz.results95, go_sem, e0, e1]) rfl ⟨_, rfl, ?_, (hW2.out.setCell (by simp; omega) _).setCell (by simp; omega) _⟩
              rw [hres.out]
              simp [hR0]
              exact hB2.out.store hR2.out _ _
          · go_wp2_with fail
            refine bodyPost_ret (v := .agg #[.bool nq, .slice pq lq cq]) (by simp [results, Tryz.results95, go_sem, y0, y1]) rfl ⟨_, rfl, ?_, (hW.out.setCell (by simp; omega) _).setCell (by simp; omega) _⟩
            rw [hres.out]
            simp
            exact (hB.out.store hR.out _ _).wide (by omega)
end Go.Proofs.YthocnlalahknjaaGreat
