/- The contract of the reference's Add: where the signs are alike. -/
import Derived.Test.YtljclgphgojphaaGreatR2
namespace Go.Proofs.YtljclgphgojphaaGreat
open Go.RowKit
set_option linter.unusedVariables false

/-- a sum, digit by digit, with a carry -/
structure AddInv (f g : Nat → Int) (i : Nat) (c : Int) (os : List Int) : Prop where
  len : os.length = i
  digs : Digs (dg os)
  c0 : 0 ≤ c
  c1 : c ≤ 1
  eq : val os + c * pw i = dv f i + dv g i
theorem AddInv.first (f g : Nat → Int) : AddInv f g 0 0 [] := ⟨rfl, digs_nil, by omega, by omega, by rw [val_nil]; simp [dv]⟩
theorem AddInv.next {f g : Nat → Int} {i : Nat} {c : Int} {os : List Int} (h : AddInv f g i c os) (hf : Digs f) (hg : Digs g) : AddInv f g (i + 1) ((c + f i + g i) / 10000) (os ++ [(c + f i + g i) % 10000]) := by
  have a := hf i
  have b := hg i
  have c0 := h.c0
  have c1 := h.c1
  refine ⟨by rw [List.length_append, h.len]; rfl, digs_snoc h.digs (by omega) (by omega), by omega, by omega, ?_⟩
  rw [val_snoc, h.len, dv, dv, pw_succ]
  have e := h.eq
  have e1 : (c + f i + g i) * pw i = c * pw i + f i * pw i + g i * pw i := by rw [Int.add_mul, Int.add_mul]
  have e2 : (c + f i + g i) * pw i = (c + f i + g i) % 10000 * pw i + (c + f i + g i) / 10000 * (10000 * pw i) := by
    rw [Int.mul_left_comm, ← Int.mul_assoc, ← Int.add_mul, Int.emod_add_mul_ediv]
  omega
theorem AddInv.last {da db : List Int} {M : Nat} {c : Int} {os : List Int} (h : AddInv (dg da) (dg db) (M + 1) c os) (ha : Digs (dg da)) (hb : Digs (dg db)) (la : da.length ≤ M) (lb : db.length ≤ M) : val os = val da + val db := by
  have e := h.eq
  rw [val_ext (by omega), val_ext (by omega), pw_succ] at e
  have a1 := (dv_bd ha M).2
  have b1 := (dv_bd hb M).2
  rw [val_ext la] at a1
  rw [val_ext lb] at b1
  have o := (val_bd h.digs).1
  have c0 := h.c0
  have c1 := h.c1
  have p := pw_pos M
  rcases (by omega : c = 0 ∨ c = 1) with hc | hc
  · rw [hc] at e; omega
  · rw [hc] at e; omega

/-- what is made: a Big in block b, its row behind it; the result's is block r -/
structure Outs (W : World) (b r : Nat) (neg : Bool) (v : Value) (os : List Int) : Prop where
  c0 : W.cell? ⟨b, 0, none⟩ = some (.bool neg)
  c1 : W.cell? ⟨b, 1, none⟩ = some v
  f1 : W.frozen? ⟨b, 1, none⟩ = false
  size : b < W.heap.size
  own : W.ownsRow (b + 1) 3 1 v os.length (os.map (.int .i64))
  box : Box W r
  lt : r < b
theorem grown_of_below {W W' : World} (hb : Below W.heap.size W W') : W.grownBy W' none := ⟨hb.os, hb.tape, hb.output, hb.size, fun k hk _ => hb.block k hk⟩
theorem Outs.kept {W W' : World} {b r : Nat} {neg : Bool} {v : Value} {os : List Int} (h : Outs W b r neg v os) (hb : Below W.heap.size W W') : Outs W' b r neg v os := by
  have s := h.size
  refine ⟨(hb.cell (p := ⟨b, 0, none⟩) s).trans h.c0, (hb.cell (p := ⟨b, 1, none⟩) s).trans h.c1, (hb.frozen (p := ⟨b, 1, none⟩) s).trans h.f1, Nat.lt_of_lt_of_le s hb.size, ?_, h.box.kept hb (by have := h.lt; omega), h.lt⟩
  refine h.own.kept (grown_of_below hb) ?_
  cases v.ownBlock with
  | none => exact .inl rfl
  | some k => exact .inr (by simp)
theorem Outs.drew {W : World} {b r : Nat} {neg : Bool} {v : Value} {os : List Int} (h : Outs W b r neg v os) : Outs W.drew b r neg v os := ⟨h.c0, h.c1, h.f1, h.size, h.own, h.box, h.lt⟩
theorem Outs.made (W : World) (r : Nat) (neg : Bool) (hr : Box W r) (hlt : r < W.heap.size) : Outs (W.alloc (.cells #[.bool neg, .slice none 0 0] 122)) W.heap.size r neg (.slice none 0 0) [] :=
  ⟨by go_simp, by go_simp, by go_simp, by simp, World.ownsRow_nil _ _ _ _, hr.kept ((Below.refl _ _).alloc (Nat.le_refl _) _) hlt, hlt⟩
/-- one digit more -/
theorem Outs.more {W : World} {b r : Nat} {neg : Bool} {v : Value} {os : List Int} (h : Outs W b r neg v os) (d : Int) (hl : os.length ≤ 1000000) :
    ∃ g c w', (Builtin.append_ #[120, 120] 120 #[v, .slice (some ⟨W.heap.size, 0, none⟩) 1 1]).run Tryz.prog (W.alloc (.cells #[.int .i64 d] 3)) = .ok (.slice (some ⟨g, 0, none⟩) (os.length + 1) c) w' ∧
      w'.cell? ⟨b, 1, none⟩ = some v ∧ w'.frozen? ⟨b, 1, none⟩ = false ∧
      Outs (w'.setCell ⟨b, 1, none⟩ (.slice (some ⟨g, 0, none⟩) (os.length + 1) c)) b r neg (.slice (some ⟨g, 0, none⟩) (os.length + 1) c) (os ++ [d]) ∧
      Below b W (w'.setCell ⟨b, 1, none⟩ (.slice (some ⟨g, 0, none⟩) (os.length + 1) c)) := by
  have s := h.size
  obtain ⟨g, c, w', hrun, hown', hb⟩ := append_digit W (b + 1) v os d h.own s hl
  have x0 := (hb.cell (p := ⟨b, 0, none⟩) (by simp)).trans h.c0
  have x1 := (hb.cell (p := ⟨b, 1, none⟩) (by simp)).trans h.c1
  have y1 := (hb.frozen (p := ⟨b, 1, none⟩) (by simp)).trans h.f1
  have hb3 : Below b W (w'.setCell ⟨b, 1, none⟩ (.slice (some ⟨g, 0, none⟩) (os.length + 1) c)) := Below.setCell (B := b) (p := ⟨b, 1, none⟩) (hb.mono (Nat.le_succ b)) (Nat.le_refl b) _
  exact ⟨g, c, w', hrun, x1, y1, ⟨by go_simp, by go_simp, by go_simp, by have := hb.size; simp [World.setCell]; omega, ownsRow_setCell_below hown' (by simp) _, h.box.kept hb3 h.lt, h.lt⟩, hb3⟩

set_option maxRecDepth 100000 in
set_option maxHeartbeats 4000000 in
theorem add_same (n : Bool) (pa pb : Option Addr) (la lb ca cb M : Nat) (da db : List Int) (w : World) (ha : DRow w pa la da) (hb : DRow w pb lb db) (hla : la ≤ 100000) (hlb : lb ≤ 100000)
    (hM : la < lb ∧ lb = M ∨ ¬ la < lb ∧ la = M) :
    Calls Tryz.prog 89 #[.agg #[.bool n, .slice pa la ca], .agg #[.bool n, .slice pb lb cb]] w (RetB w (M + 1) (sgB n (val da + val db))) := by
  have fa := Lib.hid ha.2.1
  have fb := Lib.hid hb.2.1
  have la' := Lib.hid ha.1
  have lb' := Lib.hid hb.1
  have hH0 := Lib.hid (Hold.made (na := n) (nb := n) (ca := ca) (cb := cb) ha hb)
  clear ha hb
  have hMa : la ≤ M := by omega
  have hMb : lb ≤ M := by omega
  have hMl : M ≤ 100000 := by omega
  rcases hM with ⟨hlt, hM⟩ | ⟨hlt, hM⟩
  all_goals
    replace hM := Lib.hid hM

    go_enter Tryz.func89, Tryz.ntmps89
    go_wp2_with fail
    go_loopw [6, 7] (fun c i wr => ∃ (k : Nat) (cv : Int) (os : List Int) (v : Value), k ≤ M + 1 ∧ c = .int .i64 cv ∧ i = .int .i64 k ∧ AddInv (dg da) (dg db) k cv os ∧ Hold w wr n n pa pb la lb ca cb da db ∧ Outs wr (w.heap.size + 1 + 1 + 1) (w.heap.size + 1 + 1) n v os)
      (fun _ i _ => M + 1 - (intOf i).toNat)
    case atStart =>
      refine ⟨0, 0, [], .slice none 0 0, by omega, rfl, rfl, AddInv.first _ _, (hH0.out.keptTo (n := w.heap.size + 1 + 1) (((Below.refl _ _).alloc (by simp) _).alloc (by simp) _) (by omega)), ?_⟩
      have hx := Outs.made (((w.alloc (Obj.cells #[Value.bool n, Value.slice pa la ca] 122)).alloc (Obj.cells #[Value.bool n, Value.slice pb lb cb] 122)).alloc (Obj.cells #[Value.bool false, Value.slice none 0 0] 122)) (w.heap.size + 1 + 1) n (by
        have := Box.made ((w.alloc (Obj.cells #[Value.bool n, Value.slice pa la ca] 122)).alloc (Obj.cells #[Value.bool n, Value.slice pb lb cb] 122)) false none 0 0
        simpa using this) (by simp)
      simpa using hx
    case round =>
      obtain ⟨k, cv, os, v, hk, rfl, rfl, inv, hH, hO⟩ := hrel
      have kl := inv.len
      by_cases hlast : k = M + 1
      · subst hlast
        have hval := Lib.hid (inv.last fa.out fb.out (by rw [la'.out]; exact hMa) (by rw [lb'.out]; exact hMb))
        obtain ⟨t0, t1, t2, t3⟩ := hH.two
        obtain ⟨p, cap, rfl, hlc, hpc, hrow, hbase⟩ := own_drow hO.own inv.digs
        have q0 := hO.c0
        have q1 := hO.c1
        replace hrow := Lib.hid hrow
        replace hpc := Lib.hid hpc
        replace hbase := Lib.hid hbase
        replace inv := Lib.hid inv
        replace hH := Lib.hid hH
        replace hO := Lib.hid hO
        rw [kl] at hlc
        rw [kl] at q1
        rw [kl] at hrow
        clear kl
        first
          | have hklt : ¬ ((M + 1 : Nat) : Int) < (lb : Int) + 1 := by have := hM.out; omega
          | have hklt : ¬ ((M + 1 : Nat) : Int) < (la : Int) + 1 := by have := hM.out; omega
        go_wp2_with fail
        refine (trim_any n p (M + 1) cap os _ hrow.out hlc hpc.out (by omega)).mono ?_
        rintro e w1 ⟨v, rfl, hv, hb1⟩
        have hbox : Box w1 (w.heap.size + 1 + 1) := hO.out.box.kept hb1 (by have := hO.out.size; omega)
        obtain ⟨x, q, l, c, g0, g1, k0, k1⟩ := hbox.cells
        obtain ⟨neg', p', len', cap', ds', rfl, hrow', hlc', hpc', hlen', hN', hz'⟩ := hv
        have hB := Lib.hid (hH.out.bel.trans (hb1.mono hH.out.bel.size))
        replace hrow' := Lib.hid hrow'
        replace hpc' := Lib.hid hpc'
        replace hN' := Lib.hid hN'
        replace hz' := Lib.hid hz'
        replace hbox := Lib.hid hbox
        clear t0 t1 t2 t3 q0 q1 hb1
        go_wp2_with fail
        refine bodyPost_ret (v := .agg #[.bool neg', .slice p' len' cap']) (by simp [results, Tryz.results89, go_sem, g0, g1]) rfl ⟨_, rfl, ⟨neg', p', len', cap', ds', rfl, hbox.out.stored hrow'.out _ _, hlc', hpc'.out, hlen', ?_, hz'.out⟩, ?_⟩
        · rw [hN'.out, hval.out]
        · exact (hB.out.setCell (by simp; omega) _).setCell (by simp; omega) _
      · have t := hH.two
        obtain ⟨t0, t1, t2, t3⟩ := t
        have d0 := fa.out k
        have d1 := fb.out k
        have cc0 := inv.c0
        have cc1 := inv.c1
        have inv' := Lib.hid (inv.next fa.out fb.out)
        replace inv := Lib.hid inv
        replace hH := Lib.hid hH
        replace hO := Lib.hid hO
        generalize hx : dg da k = x at *
        generalize hy : dg db k = y at *
        replace hx := Lib.hid hx
        replace hy := Lib.hid hy
        replace kl := Lib.hid kl
        first
          | have hklt : (k : Int) < (lb : Int) + 1 := by have := hM.out; omega
          | have hklt : (k : Int) < (la : Int) + 1 := by have := hM.out; omega
        have e1 : IntKind.i64.wrap (cv + x) = cv + x := by rw [IntKind.wrap_i64]; omega
        have e2 : IntKind.i64.wrap (cv + x + y) = cv + x + y := by rw [IntKind.wrap_i64]; omega
        have hkl : k ≤ 1000000 := by omega
        go_upto_region 7 with (fail)
        go_region_held3 (fun w' => w'.cell? ⟨w.heap.size, 0, none⟩ = some (.bool n) ∧ w'.cell? ⟨w.heap.size, 1, none⟩ = some (.slice pa la ca) ∧ w'.cell? ⟨w.heap.size + 1, 0, none⟩ = some (.bool n) ∧ w'.cell? ⟨w.heap.size + 1, 1, none⟩ = some (.slice pb lb cb))
          (first | exact hH.out.two | exact hH1.out.two | exact hH2.out.two)
          (first
            | (go_at_call 118; (with_reducible refine (digA (w := w) (nb := n) (pb := pb) (lb := lb) (cb := cb) (db := db) (da := da) ?_ k ?_).mono ?_); exact hH.out.drew; exact hkl; rintro e w1 ⟨rfl, hH1, hb1⟩; rw [hx.out]; replace hH1 := Lib.hid hH1; have hO1 := Lib.hid (hO.out.drew.kept hb1); clear hb1)
            | (go_at_call 118; (with_reducible refine (digB (w := w) (na := n) (pa := pa) (la := la) (ca := ca) (da := da) (db := db) ?_ k ?_).mono ?_); exact hH1.out; exact hkl; rintro e w2 ⟨rfl, hH2, hb2⟩; rw [hy.out]; replace hH2 := Lib.hid hH2; have hO2 := Lib.hid (hO1.out.kept hb2); clear hb2))
        clear t0 t1 t2 t3 e1 e2 hH hH1 hO hO1
        obtain ⟨g, c, w', hrun, z1, z2, hO3, hb3⟩ := hO2.out.more ((cv + x + y) % 10000) (by rw [kl.out]; omega)
        have q1 := hO2.out.c1
        have hH3 := Lib.hid (hH2.out.keptTo hb3 (by omega))
        replace hO3 := Lib.hid hO3
        replace hb3 := Lib.hid hb3
        replace hrun := Lib.hid hrun
        go_wp2_with (at_builtin; refine wpList_app rfl _ _ _ _ rfl _ _ _ _ rfl rfl hrun.out ?_)
        go_roundw
        case rel => exact ⟨k + 1, (cv + x + y) / 10000, _, _, by omega, rfl, by go_num, inv'.out, hH3.out, hO3.out⟩
        case measure => simp [intOf]; omega
end Go.Proofs.YtljclgphgojphaaGreat
