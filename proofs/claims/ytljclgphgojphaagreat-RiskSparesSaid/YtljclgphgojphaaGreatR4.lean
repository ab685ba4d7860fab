/- The contract of the reference's Add: where the signs differ; and of all. -/
import Derived.Test.YtljclgphgojphaaGreatR3
namespace Go.Proofs.YtljclgphgojphaaGreat
open Go.RowKit
set_option linter.unusedVariables false

/-- a difference, digit by digit, with what is borrowed -/
structure SubInv (f g : Nat → Int) (i : Nat) (c : Int) (os : List Int) : Prop where
  len : os.length = i
  digs : Digs (dg os)
  c0 : 0 ≤ c
  c1 : c ≤ 1
  eq : val os - c * pw i = dv f i - dv g i
theorem SubInv.first (f g : Nat → Int) : SubInv f g 0 0 [] := ⟨rfl, digs_nil, by omega, by omega, by rw [val_nil]; simp [dv]⟩
theorem SubInv.next {f g : Nat → Int} {i : Nat} {c : Int} {os : List Int} (h : SubInv f g i c os) (d c' : Int) (hd : f i - g i - c = d - 10000 * c') (d0 : 0 ≤ d) (d1 : d ≤ 9999) (c0 : 0 ≤ c') (c1 : c' ≤ 1) : SubInv f g (i + 1) c' (os ++ [d]) := by
  refine ⟨by rw [List.length_append, h.len]; rfl, digs_snoc h.digs d0 d1, c0, c1, ?_⟩
  rw [val_snoc, h.len, dv, dv, pw_succ]
  have e := h.eq
  have e1 : (f i - g i - c) * pw i = f i * pw i - g i * pw i - c * pw i := by rw [Int.sub_mul, Int.sub_mul]
  have e2 : (d - 10000 * c') * pw i = d * pw i - c' * (10000 * pw i) := by rw [Int.sub_mul, Int.mul_left_comm, Int.mul_assoc]
  rw [hd, e2] at e1
  omega
theorem SubInv.last {da db : List Int} {c : Int} {os : List Int} (h : SubInv (dg da) (dg db) da.length c os) (ha : Digs (dg da)) (hb : Digs (dg db)) (hle : val db ≤ val da) : val os = val da - val db := by
  have e := h.eq
  have a1 := (val_bd ha).2
  have hz := dv_zero hb (m := da.length) (n := db.length) (by show val db < _; omega)
  have hv : dv (dg db) da.length = val db := by
    rcases Nat.le_total da.length db.length with hl | hl
    · unfold val
      symm
      refine dv_ext hl (fun i hi => ?_)
      by_cases hi2 : i < db.length
      · exact hz i hi hi2
      · exact dg_out (by omega)
    · exact val_ext hl
  rw [hv] at e
  change val os - c * pw da.length = val da - val db at e
  have o := val_bd h.digs
  rw [h.len] at o
  have c0 := h.c0
  have c1 := h.c1
  rcases (by omega : c = 0 ∨ c = 1) with hc | hc
  · rw [hc] at e; omega
  · rw [hc] at e; omega

set_option maxRecDepth 100000 in
set_option maxHeartbeats 4000000 in
theorem add_ge (na nb : Bool) (pa pb : Option Addr) (la lb ca cb : Nat) (da db : List Int) (w : World) (ha : DRow w pa la da) (hb : DRow w pb lb db) (hla : la ≤ 100000) (hlb : lb ≤ 100000)
    (hne : (na == nb) = false) (hle : val db ≤ val da) :
    Calls Tryz.prog 89 #[.agg #[.bool na, .slice pa la ca], .agg #[.bool nb, .slice pb lb cb]] w (RetB w la (sgB na (val da - val db))) := by
  have fa := Lib.hid ha.2.1
  have fb := Lib.hid hb.2.1
  have la' := Lib.hid ha.1
  have hH0 := Lib.hid (Hold.made (na := na) (nb := nb) (ca := ca) (cb := cb) ha hb)
  clear ha hb
  have hcmp : Hid (cmp3 (val da) (val db) = 0 ∨ cmp3 (val da) (val db) = 1) := by
    show _ ∨ _
    unfold cmp3
    split
    · exact .inr rfl
    · rw [if_neg (by omega)]; exact .inl rfl
  replace hle := Lib.hid hle
  go_enter Tryz.func89, Tryz.ntmps89
  go_wp2_with fail
  have hO0 : Outs ((((w.alloc (Obj.cells #[Value.bool na, Value.slice pa la ca] 122)).alloc (Obj.cells #[Value.bool nb, Value.slice pb lb cb] 122)).alloc (Obj.cells #[Value.bool false, Value.slice none 0 0] 122)).alloc (Obj.cells #[Value.bool na, Value.slice none 0 0] 122)) (w.heap.size + 1 + 1 + 1) (w.heap.size + 1 + 1) na (.slice none 0 0) [] := by
    have hx := Outs.made (((w.alloc (Obj.cells #[Value.bool na, Value.slice pa la ca] 122)).alloc (Obj.cells #[Value.bool nb, Value.slice pb lb cb] 122)).alloc (Obj.cells #[Value.bool false, Value.slice none 0 0] 122)) (w.heap.size + 1 + 1) na (by
      have := Box.made ((w.alloc (Obj.cells #[Value.bool na, Value.slice pa la ca] 122)).alloc (Obj.cells #[Value.bool nb, Value.slice pb lb cb] 122)) false none 0 0
      simpa using this) (by simp)
    simpa using hx
  have hH1 := hH0.out.keptTo (n := w.heap.size + 1 + 1) (((Below.refl _ _).alloc (by simp) (Obj.cells #[Value.bool false, Value.slice none 0 0] 122)).alloc (by simp) (Obj.cells #[Value.bool na, Value.slice none 0 0] 122)) (by omega)
  refine (larger_any na nb pa pb la lb ca cb da db _ hH1.a hH1.b (by omega) (by omega)).mono ?_
  rintro e w1 ⟨rfl, hb1⟩
  have hH2 := hH1.kept hb1
  have hO2 := hO0.kept hb1
  clear hO0 hH1 hb1
  have hc0 : ¬ cmp3 (val da) (val db) < 0 := by rcases hcmp.out with h | h <;> omega
  obtain ⟨t0, t1, t2, t3⟩ := hH2.two
  replace hH2 := Lib.hid hH2
  replace hO2 := Lib.hid hO2
  generalize cmp3 (val da) (val db) = cm at *
  go_wp2_with fail
  clear t0 t1 t2 t3
  go_loopw [6, 8] (fun c i wr => ∃ (k : Nat) (cv : Int) (os : List Int) (v : Value), k ≤ la ∧ c = .int .i64 cv ∧ i = .int .i64 k ∧ SubInv (dg da) (dg db) k cv os ∧ Hold w wr na nb pa pb la lb ca cb da db ∧ Outs wr (w.heap.size + 1 + 1 + 1) (w.heap.size + 1 + 1) na v os)
    (fun _ i _ => la - (intOf i).toNat)
  case atStart => exact ⟨0, 0, [], .slice none 0 0, by omega, rfl, rfl, SubInv.first _ _, hH2.out, hO2.out⟩
  case round =>
    clear hH2 hO2 hH0
    obtain ⟨k, cv, os, v, hk, rfl, rfl, inv, hH, hO⟩ := hrel
    have kl := inv.len
    obtain ⟨t0, t1, t2, t3⟩ := hH.two
    by_cases hlast : k = la
    · subst hlast
      have hval := Lib.hid (SubInv.last (da := da) (db := db) (c := cv) (os := os) (by rw [la'.out]; exact inv) fa.out fb.out hle.out)
      obtain ⟨p, cap, rfl, hlc, hpc, hrow, hbase⟩ := own_drow hO.own inv.digs
      have q0 := hO.c0
      have q1 := hO.c1
      replace hrow := Lib.hid hrow
      replace hpc := Lib.hid hpc
      replace hbase := Lib.hid hbase
      replace inv := Lib.hid inv
      replace hH := Lib.hid hH
      replace hO := Lib.hid hO
      rw [kl] at hlc
      rw [kl] at q1
      rw [kl] at hrow
      clear kl
      go_wp2_with fail
      refine (trim_any na p k cap os _ hrow.out hlc hpc.out (by omega)).mono ?_
      rintro e w2 ⟨v, rfl, hv, hb2⟩
      have hbox : Box w2 (w.heap.size + 1 + 1) := hO.out.box.kept hb2 (by have := hO.out.size; omega)
      obtain ⟨x, q, l, c, g0, g1, k0, k1⟩ := hbox.cells
      obtain ⟨neg', p', len', cap', ds', rfl, hrow', hlc', hpc', hlen', hN', hz'⟩ := hv
      have hB := Lib.hid (hH.out.bel.trans (hb2.mono hH.out.bel.size))
      replace hrow' := Lib.hid hrow'
      replace hpc' := Lib.hid hpc'
      replace hN' := Lib.hid hN'
      replace hz' := Lib.hid hz'
      replace hbox := Lib.hid hbox
      clear t0 t1 t2 t3 q0 q1 hb2
      go_wp2_with fail
      refine bodyPost_ret (v := .agg #[.bool neg', .slice p' len' cap']) (by simp [results, Tryz.results89, go_sem, g0, g1]) rfl ⟨_, rfl, ⟨neg', p', len', cap', ds', rfl, hbox.out.stored hrow'.out _ _, hlc', hpc'.out, hlen', ?_, hz'.out⟩, ?_⟩
      · rw [hN'.out, hval.out]
      · exact (hB.out.setCell (by simp; omega) _).setCell (by simp; omega) _
    · have d0 := fa.out k
      have d1 := fb.out k
      have cc0 := inv.c0
      have cc1 := inv.c1
      have hnx := Lib.hid (fun d c' => inv.next d c')
      replace inv := Lib.hid inv
      replace hH := Lib.hid hH
      replace hO := Lib.hid hO
      generalize hx : dg da k = x at *
      generalize hy : dg db k = y at *
      replace hx := Lib.hid hx
      replace hy := Lib.hid hy
      replace kl := Lib.hid kl
      have hklt : (k : Int) < (la : Int) := by omega
      have e1 : IntKind.i64.wrap (x - y) = x - y := by rw [IntKind.wrap_i64]; omega
      have e2 : IntKind.i64.wrap (x - y - cv) = x - y - cv := by rw [IntKind.wrap_i64]; omega
      have hkl : k ≤ 1000000 := by omega
      go_upto_region 16 with (fail)
      go_region_held3 (fun w' => w'.cell? ⟨w.heap.size, 0, none⟩ = some (.bool na) ∧ w'.cell? ⟨w.heap.size, 1, none⟩ = some (.slice pa la ca) ∧ w'.cell? ⟨w.heap.size + 1, 0, none⟩ = some (.bool nb) ∧ w'.cell? ⟨w.heap.size + 1, 1, none⟩ = some (.slice pb lb cb))
        (first | exact hH.out.two | exact hH1.out.two | exact hH2.out.two)
        (first
          | (go_at_call 118; (with_reducible refine (digA (w := w) (nb := nb) (pb := pb) (lb := lb) (cb := cb) (db := db) (da := da) ?_ k ?_).mono ?_); exact hH.out.drew; exact hkl; rintro e w1 ⟨rfl, hH1, hb1⟩; rw [hx.out]; replace hH1 := Lib.hid hH1; have hO1 := Lib.hid (hO.out.drew.kept hb1); clear hb1)
          | (go_at_call 118; (with_reducible refine (digB (w := w) (na := na) (pa := pa) (la := la) (ca := ca) (da := da) (db := db) ?_ k ?_).mono ?_); exact hH1.out; exact hkl; rintro e w2 ⟨rfl, hH2, hb2⟩; rw [hy.out]; replace hH2 := Lib.hid hH2; have hO2 := Lib.hid (hO1.out.kept hb2); clear hb2))
      clear t0 t1 t2 t3 e1 e2 hH hH1 hO hO1
      by_cases hd : x - y - cv < 0
      · have inv' := Lib.hid (hnx.out (x - y - cv + 10000) 1 (by omega) (by omega) (by omega) (by omega) (by omega))
        obtain ⟨g, c, w', hrun, z1, z2, hO3, hb3⟩ := hO2.out.more (x - y - cv + 10000) (by rw [kl.out]; omega)
        have q1 := hO2.out.c1
        have hH3 := Lib.hid (hH2.out.keptTo hb3 (by omega))
        replace hO3 := Lib.hid hO3
        replace hb3 := Lib.hid hb3
        replace hrun := Lib.hid hrun
        go_wp2_with (at_builtin; refine wpList_app rfl _ _ _ _ rfl _ _ _ _ rfl rfl hrun.out ?_)
        go_roundw
        case rel => exact ⟨k + 1, 1, _, _, by omega, rfl, by go_num, inv'.out, hH3.out, hO3.out⟩
        case measure => simp [intOf]; omega
      · have inv' := Lib.hid (hnx.out (x - y - cv) 0 (by omega) (by omega) (by omega) (by omega) (by omega))
        obtain ⟨g, c, w', hrun, z1, z2, hO3, hb3⟩ := hO2.out.more (x - y - cv) (by rw [kl.out]; omega)
        have q1 := hO2.out.c1
        have hH3 := Lib.hid (hH2.out.keptTo hb3 (by omega))
        replace hO3 := Lib.hid hO3
        replace hb3 := Lib.hid hb3
        replace hrun := Lib.hid hrun
        go_wp2_with (at_builtin; refine wpList_app rfl _ _ _ _ rfl _ _ _ _ rfl rfl hrun.out ?_)
        go_roundw
        case rel => exact ⟨k + 1, 0, _, _, by omega, rfl, by go_num, inv'.out, hH3.out, hO3.out⟩
        case measure => simp [intOf]; omega

set_option maxRecDepth 100000 in
set_option maxHeartbeats 4000000 in
theorem add_lt (na nb : Bool) (pa pb : Option Addr) (la lb ca cb : Nat) (da db : List Int) (w : World) (ha : DRow w pa la da) (hb : DRow w pb lb db) (hla : la ≤ 100000) (hlb : lb ≤ 100000)
    (hne : (na == nb) = false) (hlt : val da < val db) :
    Calls Tryz.prog 89 #[.agg #[.bool na, .slice pa la ca], .agg #[.bool nb, .slice pb lb cb]] w (RetB w lb (sgB nb (val db - val da))) := by
  have hH0 := Lib.hid (Hold.made (na := na) (nb := nb) (ca := ca) (cb := cb) ha hb)
  clear ha hb
  have hcmp : Hid (cmp3 (val da) (val db) = -1) := by
    show _ = _
    unfold cmp3
    rw [if_neg (by omega), if_pos hlt]
  replace hlt := Lib.hid hlt
  go_enter Tryz.func89, Tryz.ntmps89
  go_wp2_with fail
  have hbox0 : Box ((((w.alloc (Obj.cells #[Value.bool na, Value.slice pa la ca] 122)).alloc (Obj.cells #[Value.bool nb, Value.slice pb lb cb] 122)).alloc (Obj.cells #[Value.bool false, Value.slice none 0 0] 122)).alloc (Obj.cells #[Value.bool na, Value.slice none 0 0] 122)) (w.heap.size + 1 + 1) := by
    have := Box.made ((w.alloc (Obj.cells #[Value.bool na, Value.slice pa la ca] 122)).alloc (Obj.cells #[Value.bool nb, Value.slice pb lb cb] 122)) false none 0 0
    have h2 := this.kept ((Below.refl _ _).alloc (Nat.le_refl _) (Obj.cells #[Value.bool na, Value.slice none 0 0] 122)) (by simp)
    simpa using h2
  have hH1 := hH0.out.keptTo (n := w.heap.size + 1 + 1) (((Below.refl _ _).alloc (by simp) (Obj.cells #[Value.bool false, Value.slice none 0 0] 122)).alloc (by simp) (Obj.cells #[Value.bool na, Value.slice none 0 0] 122)) (by omega)
  refine (larger_any na nb pa pb la lb ca cb da db _ hH1.a hH1.b (by omega) (by omega)).mono ?_
  rintro e w1 ⟨rfl, hb1⟩
  rw [hcmp.out]
  have hH2 := hH1.kept hb1
  have hbox1 := hbox0.kept hb1 (by simp)
  have hs1 := hb1.size
  simp at hs1
  clear hH1 hb1 hbox0
  obtain ⟨t0, t1, t2, t3⟩ := hH2.two
  replace hH2 := Lib.hid hH2
  replace hbox1 := Lib.hid hbox1
  go_wp2_with fail
  refine (add_ge nb na pb pa lb la cb ca db da _ hH2.out.b hH2.out.a hlb hla (by cases na <;> cases nb <;> simp_all) (Int.le_of_lt hlt.out)).mono ?_
  rintro e w2 ⟨v, rfl, hv, hb2⟩
  have hbox : Box w2 (w.heap.size + 1 + 1) := hbox1.out.kept hb2 (by omega)
  obtain ⟨x, q, l, c, g0, g1, k0, k1⟩ := hbox.cells
  obtain ⟨neg', p', len', cap', ds', rfl, hrow', hlc', hpc', hlen', hN', hz'⟩ := hv
  have hB := Lib.hid (hH2.out.bel.trans (hb2.mono hH2.out.bel.size))
  replace hrow' := Lib.hid hrow'
  replace hpc' := Lib.hid hpc'
  replace hN' := Lib.hid hN'
  replace hz' := Lib.hid hz'
  replace hbox := Lib.hid hbox
  clear t0 t1 t2 t3 hb2
  go_wp2_with fail
  refine bodyPost_ret (v := .agg #[.bool neg', .slice p' len' cap']) (by simp [results, Tryz.results89, go_sem, g0, g1]) rfl ⟨_, rfl, ⟨neg', p', len', cap', ds', rfl, hbox.out.stored hrow'.out _ _, hlc', hpc'.out, hlen', hN'.out, hz'.out⟩, ?_⟩
  exact (hB.out.setCell (by simp; omega) _).setCell (by simp; omega) _

/-- a sum of exact numbers -/
theorem addB_any (v v' : Value) (L : Nat) (N N' : Int) (w : World) (h : IsB w v L N) (h' : IsB w v' L N') (hL : L ≤ 100000) :
    Calls Tryz.prog 89 #[v, v'] w (RetB w (L + 1) (N + N')) := by
  obtain ⟨na, pa, la, ca, da, rfl, ha, _, _, hla, hN, _⟩ := h
  obtain ⟨nb, pb, lb, cb, db, rfl, hb, _, _, hlb, hN', _⟩ := h'
  by_cases hs : na = nb
  · subst hs
    have hM : la < lb ∧ lb = max la lb ∨ ¬ la < lb ∧ la = max la lb := by omega
    refine (add_same na pa pb la lb ca cb (max la lb) da db w ha hb (by omega) (by omega) hM).mono fun e w' hr => hr.more (by omega) ?_
    rw [← hN, ← hN']
    unfold sgB
    cases na <;> simp <;> omega
  · have hne : (na == nb) = false := by simpa using hs
    rcases Int.lt_or_le (val da) (val db) with hlt | hle
    · refine (add_lt na nb pa pb la lb ca cb da db w ha hb (by omega) (by omega) hne hlt).mono fun e w' hr => hr.more (by omega) ?_
      rw [← hN, ← hN']
      unfold sgB
      cases na <;> cases nb <;> simp at hs ⊢ <;> omega
    · refine (add_ge na nb pa pb la lb ca cb da db w ha hb (by omega) (by omega) hne hle).mono fun e w' hr => hr.more (by omega) ?_
      rw [← hN, ← hN']
      unfold sgB
      cases na <;> cases nb <;> simp at hs ⊢ <;> omega
end Go.Proofs.YtljclgphgojphaaGreat
