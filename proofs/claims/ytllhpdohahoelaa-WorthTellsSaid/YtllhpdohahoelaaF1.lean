/- The contracts of the reference's trim and Add, with where the digits lie. -/
import Derived.Test.YtllhpdohahoelaaR4
import Derived.Test.YtllhpdohahoelaaR5
namespace Go.Proofs.Ytllhpdohahoelaa
open Go.RowKit
set_option linter.unusedVariables false

/-- what trim returns: an exact number, its digits where they were -/
def RetT (w : World) (p : Option Addr) (L : Nat) (N : Int) (e : Ending) (w' : World) : Prop :=
  ∃ (neg : Bool) (p' : Option Addr) (len cap : Nat) (ds : List Int), e = .returned (.agg #[.bool neg, .slice p' len cap]) ∧ DRow w' p' len ds ∧ len ≤ cap ∧ (p' = none → cap = 0) ∧ len ≤ L ∧ sgB neg (val ds) = N ∧ ((ds = [] → neg = false) ∧ (0 < len → dg ds (len - 1) ≠ 0)) ∧ Below w.heap.size w w' ∧ (p' = p ∨ p' = none)
/-- what a sum returns: an exact number, its digits in new memory -/
def RetF (w : World) (L : Nat) (N : Int) (e : Ending) (w' : World) : Prop :=
  ∃ (neg : Bool) (p' : Option Addr) (len cap : Nat) (ds : List Int), e = .returned (.agg #[.bool neg, .slice p' len cap]) ∧ DRow w' p' len ds ∧ len ≤ cap ∧ (p' = none → cap = 0) ∧ len ≤ L ∧ sgB neg (val ds) = N ∧ ((ds = [] → neg = false) ∧ (0 < len → dg ds (len - 1) ≠ 0)) ∧ Below w.heap.size w w' ∧ (∀ b off, p' = some ⟨b, off, none⟩ → w.heap.size ≤ b)

set_option maxHeartbeats 1000000 in
theorem trim_full (neg : Bool) (p : Option Addr) (len cap : Nat) (ds : List Int) (w : World) (h : DRow w p len ds) (hcap : len ≤ cap) (hp : p = none → cap = 0) (hm : len ≤ 1000000) :
    Calls Try.prog 65 #[.agg #[.bool neg, .slice p len cap]] w (RetT w p len (sgB neg (val ds))) := by
  have hrow := h
  obtain ⟨hl, hd, hc⟩ := h
  replace hc := Lib.hid hc
  replace hd := Lib.hid hd
  replace hl := Lib.hid hl
  replace hp := Lib.hid hp
  replace hrow := Lib.hid hrow
  go_enter Try.func65, Try.ntmps65
  go_upto_block 0 with (fail)
  go_cut [3] (fun t wc => ∃ n : Nat, n ≤ len ∧ t = .int .i64 n ∧ (∀ i, n ≤ i → dg ds i = 0) ∧ (0 < n → dg ds (n - 1) ≠ 0) ∧ wc = ((w.alloc (Obj.cells #[Value.bool neg, Value.slice p len cap] 83)).alloc
    (Obj.cells #[Value.bool false, Value.slice none 0 0] 83)))
  case first =>
    go_wp2_with fail
    go_loop [3] (fun t => ∃ n : Nat, n ≤ len ∧ t = .int .i64 n ∧ Hid (∀ i, n ≤ i → dg ds i = 0)) (fun t => (intOf t).toNat)
    case atStart => exact ⟨len, Nat.le_refl _, rfl, fun i hi => dg_out (by rw [hl.out]; exact hi)⟩
    case round =>
      obtain ⟨n, hn, rfl, hz⟩ := hrel
      cases n with
      | zero =>
        go_wp2_with fail
        go_meet
        exact ⟨0, by omega, rfl, hz, by omega, rfl⟩
      | succ k =>
        obtain ⟨b, off, rfl, hb, hcell⟩ := hc.out.resolve_left (by omega)
        have h1 := hcell k (by omega)
        have hne : b ≠ w.heap.size := by omega
        have hne' : b ≠ w.heap.size + 1 := by omega
        clear hcell
        by_cases hd0 : dg ds k = 0
        · rw [hd0] at h1
          replace hd0 := Lib.hid hd0
          go_wp2_with fail
          refine ⟨⟨k, by omega, by go_num, fun i hi => ?_⟩, by simp [intOf]⟩
          by_cases hik : i = k
          · rw [hik]; exact hd0.out
          · exact hz.out i (by omega)
        · have h2 : (dg ds k == 0) = false := by simpa using hd0
          generalize hg : dg ds k = d at *
          replace hg := Lib.hid hg
          replace hd0 := Lib.hid hd0
          go_wp2_with fail
          go_meet
          exact ⟨k + 1, hn, by go_num, hz, fun _ => by rw [Nat.add_sub_cancel, hg.out]; exact hd0.out, rfl⟩
  case rest =>
    obtain ⟨n, hn, rfl, hz, hlast, rfl⟩ := hcut
    replace hz := Lib.hid hz
    replace hlast := Lib.hid hlast
    by_cases h0 : n = 0
    · subst h0
      go_wp2_with fail
      have hv : val ds = 0 := by rw [← val_take (Nat.zero_le _) hz.out]; rfl
      refine bodyPost_ret (v := .agg #[.bool false, .slice none 0 0]) (by simp [results, Try.results65, go_sem]) rfl ⟨false, none, 0, 0, [], rfl, DRow.nil _ _, Nat.le_refl _, fun _ => rfl, Nat.zero_le _, ?_, ⟨fun _ => rfl, by omega⟩, ?_, .inr rfl⟩
      · rw [hv]; cases neg <;> rfl
      · exact ((Below.refl _ _).alloc (Nat.le_refl _) _).alloc (by simp) _
    · have h1 : ((n : Int) == 0) = false := by simpa using h0
      have h2 : (n : Int) ≤ (cap : Int) := by omega
      go_wp2_with fail
      go_region
      go_wp2_with fail
      have hB : Below w.heap.size w ((w.alloc (Obj.cells #[Value.bool neg, Value.slice p len cap] 83)).alloc (Obj.cells #[Value.bool neg, Value.slice p n cap] 83)).drew := (((Below.refl _ _).alloc (Nat.le_refl _) _).alloc (by simp) _).drew
      refine bodyPost_ret (v := .agg #[.bool neg, .slice p n cap]) (by simp [results, Try.results65, go_sem]) rfl ⟨neg, p, n, cap, ds.take n, rfl, (hrow.out.taken hn).kept hB, by omega, hp.out, hn, ?_, ⟨?_, ?_⟩, hB, .inl rfl⟩
      · rw [val_take (by rw [hl.out]; exact hn) hz.out]
      · intro he
        have : (ds.take n).length = 0 := by rw [he]; rfl
        rw [List.length_take, hl.out] at this
        omega
      · intro _
        have := hlast.out (by omega)
        have e : dg (ds.take n) (n - 1) = dg ds (n - 1) := by
          unfold dg
          rw [List.getD_eq_getElem?_getD, List.getD_eq_getElem?_getD, List.getElem?_take, if_pos (by omega)]
        rw [e]
        exact this

set_option maxRecDepth 100000 in
set_option maxHeartbeats 4000000 in
theorem add_sameF (n : Bool) (pa pb : Option Addr) (la lb ca cb M : Nat) (da db : List Int) (w : World) (ha : DRow w pa la da) (hb : DRow w pb lb db) (hla : la ≤ 100000) (hlb : lb ≤ 100000)
    (hM : la < lb ∧ lb = M ∨ ¬ la < lb ∧ la = M) :
    Calls Try.prog 37 #[.agg #[.bool n, .slice pa la ca], .agg #[.bool n, .slice pb lb cb]] w (RetF w (M + 1) (sgB n (val da + val db))) := by
  have fa := Lib.hid ha.2.1
  have fb := Lib.hid hb.2.1
  have la' := Lib.hid ha.1
  have lb' := Lib.hid hb.1
  have hH0 := Lib.hid (Hold.made (na := n) (nb := n) (ca := ca) (cb := cb) ha hb)
  clear ha hb
  have hMa : la ≤ M := by omega
  have hMb : lb ≤ M := by omega
  have hMl : M ≤ 100000 := by omega
  rcases hM with ⟨hlt, hM⟩ | ⟨hlt, hM⟩
  all_goals
    replace hM := Lib.hid hM

    go_enter Try.func37, Try.ntmps37
    go_wp2_with fail
    go_loopw [6, 7] (fun c i wr => ∃ (k : Nat) (cv : Int) (os : List Int) (v : Value), k ≤ M + 1 ∧ c = .int .i64 cv ∧ i = .int .i64 k ∧ AddInv (dg da) (dg db) k cv os ∧ Hold w wr n n pa pb la lb ca cb da db ∧ Outs wr (w.heap.size + 1 + 1 + 1) (w.heap.size + 1 + 1) n v os)
      (fun _ i _ => M + 1 - (intOf i).toNat)
    case atStart =>
      refine ⟨0, 0, [], .slice none 0 0, by omega, rfl, rfl, AddInv.first _ _, (hH0.out.keptTo (n := w.heap.size + 1 + 1) (((Below.refl _ _).alloc (by simp) _).alloc (by simp) _) (by omega)), ?_⟩
      have hx := Outs.made (((w.alloc (Obj.cells #[Value.bool n, Value.slice pa la ca] 83)).alloc (Obj.cells #[Value.bool n, Value.slice pb lb cb] 83)).alloc (Obj.cells #[Value.bool false, Value.slice none 0 0] 83)) (w.heap.size + 1 + 1) n (by
        have := Box.made ((w.alloc (Obj.cells #[Value.bool n, Value.slice pa la ca] 83)).alloc (Obj.cells #[Value.bool n, Value.slice pb lb cb] 83)) false none 0 0
        simpa using this) (by simp)
      simpa using hx
    case round =>
      obtain ⟨k, cv, os, v, hk, rfl, rfl, inv, hH, hO⟩ := hrel
      have kl := inv.len
      by_cases hlast : k = M + 1
      · subst hlast
        have hval := Lib.hid (inv.last fa.out fb.out (by rw [la'.out]; exact hMa) (by rw [lb'.out]; exact hMb))
        obtain ⟨t0, t1, t2, t3⟩ := hH.two
        obtain ⟨p, cap, rfl, hlc, hpc, hrow, hbase⟩ := own_drow hO.own inv.digs
        have q0 := hO.c0
        have q1 := hO.c1
        replace hrow := Lib.hid hrow
        replace hpc := Lib.hid hpc
        replace hbase := Lib.hid hbase
        replace inv := Lib.hid inv
        replace hH := Lib.hid hH
        replace hO := Lib.hid hO
        rw [kl] at hlc
        rw [kl] at q1
        rw [kl] at hrow
        clear kl
        first
          | have hklt : ¬ ((M + 1 : Nat) : Int) < (lb : Int) + 1 := by have := hM.out; omega
          | have hklt : ¬ ((M + 1 : Nat) : Int) < (la : Int) + 1 := by have := hM.out; omega
        go_wp2_with fail
        refine (trim_full n p (M + 1) cap os _ hrow.out hlc hpc.out (by omega)).mono ?_
        rintro e w1 ⟨neg', p', len', cap', ds', rfl, hrow', hlc', hpc', hlen', hN', hz', hb1, hsame⟩
        have hbox : Box w1 (w.heap.size + 1 + 1) := hO.out.box.kept hb1 (by have := hO.out.size; omega)
        obtain ⟨x, q, l, c, g0, g1, k0, k1⟩ := hbox.cells
        replace hsame := Lib.hid hsame
        have hB := Lib.hid (hH.out.bel.trans (hb1.mono hH.out.bel.size))
        replace hrow' := Lib.hid hrow'
        replace hpc' := Lib.hid hpc'
        replace hN' := Lib.hid hN'
        replace hz' := Lib.hid hz'
        replace hbox := Lib.hid hbox
        clear t0 t1 t2 t3 q0 q1 hb1
        go_wp2_with fail
        refine bodyPost_ret (v := .agg #[.bool neg', .slice p' len' cap']) (by simp [results, Try.results37, go_sem, g0, g1]) rfl ⟨neg', p', len', cap', ds', rfl, hbox.out.stored hrow'.out _ _, hlc', hpc'.out, hlen', ?_, hz'.out, ?_, ?_⟩
        · rw [hN'.out, hval.out]
        · exact (hB.out.setCell (by simp; omega) _).setCell (by simp; omega) _
        · intro b off h
          rcases hsame.out with h2 | h2
          · have := hbase.out b off (h2 ▸ h); omega
          · rw [h2] at h; cases h
      · have t := hH.two
        obtain ⟨t0, t1, t2, t3⟩ := t
        have d0 := fa.out k
        have d1 := fb.out k
        have cc0 := inv.c0
        have cc1 := inv.c1
        have inv' := Lib.hid (inv.next fa.out fb.out)
        replace inv := Lib.hid inv
        replace hH := Lib.hid hH
        replace hO := Lib.hid hO
        generalize hx : dg da k = x at *
        generalize hy : dg db k = y at *
        replace hx := Lib.hid hx
        replace hy := Lib.hid hy
        replace kl := Lib.hid kl
        first
          | have hklt : (k : Int) < (lb : Int) + 1 := by have := hM.out; omega
          | have hklt : (k : Int) < (la : Int) + 1 := by have := hM.out; omega
        have e1 : IntKind.i64.wrap (cv + x) = cv + x := by rw [IntKind.wrap_i64]; omega
        have e2 : IntKind.i64.wrap (cv + x + y) = cv + x + y := by rw [IntKind.wrap_i64]; omega
        have hkl : k ≤ 1000000 := by omega
        go_upto_region 7 with (fail)
        go_region_held3 (fun w' => w'.cell? ⟨w.heap.size, 0, none⟩ = some (.bool n) ∧ w'.cell? ⟨w.heap.size, 1, none⟩ = some (.slice pa la ca) ∧ w'.cell? ⟨w.heap.size + 1, 0, none⟩ = some (.bool n) ∧ w'.cell? ⟨w.heap.size + 1, 1, none⟩ = some (.slice pb lb cb))
          (first | exact hH.out.two | exact hH1.out.two | exact hH2.out.two)
          (first
            | (go_at_call 64; (with_reducible refine (digA (w := w) (nb := n) (pb := pb) (lb := lb) (cb := cb) (db := db) (da := da) ?_ k ?_).mono ?_); exact hH.out.drew; exact hkl; rintro e w1 ⟨rfl, hH1, hb1⟩; rw [hx.out]; replace hH1 := Lib.hid hH1; have hO1 := Lib.hid (hO.out.drew.kept hb1); clear hb1)
            | (go_at_call 64; (with_reducible refine (digB (w := w) (na := n) (pa := pa) (la := la) (ca := ca) (da := da) (db := db) ?_ k ?_).mono ?_); exact hH1.out; exact hkl; rintro e w2 ⟨rfl, hH2, hb2⟩; rw [hy.out]; replace hH2 := Lib.hid hH2; have hO2 := Lib.hid (hO1.out.kept hb2); clear hb2))
        clear t0 t1 t2 t3 e1 e2 hH hH1 hO hO1
        obtain ⟨g, c, w', hrun, z1, z2, hO3, hb3⟩ := hO2.out.more ((cv + x + y) % 10000) (by rw [kl.out]; omega)
        have q1 := hO2.out.c1
        have hH3 := Lib.hid (hH2.out.keptTo hb3 (by omega))
        replace hO3 := Lib.hid hO3
        replace hb3 := Lib.hid hb3
        replace hrun := Lib.hid hrun
        go_wp2_with (at_builtin; refine wpList_app rfl _ _ _ _ rfl _ _ _ _ rfl rfl hrun.out ?_)
        go_roundw
        case rel => exact ⟨k + 1, (cv + x + y) / 10000, _, _, by omega, rfl, by go_num, inv'.out, hH3.out, hO3.out⟩
        case measure => simp [intOf]; omega
set_option maxRecDepth 100000 in
set_option maxHeartbeats 4000000 in
theorem add_geF (na nb : Bool) (pa pb : Option Addr) (la lb ca cb : Nat) (da db : List Int) (w : World) (ha : DRow w pa la da) (hb : DRow w pb lb db) (hla : la ≤ 100000) (hlb : lb ≤ 100000)
    (hne : (na == nb) = false) (hle : val db ≤ val da) :
    Calls Try.prog 37 #[.agg #[.bool na, .slice pa la ca], .agg #[.bool nb, .slice pb lb cb]] w (RetF w la (sgB na (val da - val db))) := by
  have fa := Lib.hid ha.2.1
  have fb := Lib.hid hb.2.1
  have la' := Lib.hid ha.1
  have hH0 := Lib.hid (Hold.made (na := na) (nb := nb) (ca := ca) (cb := cb) ha hb)
  clear ha hb
  have hcmp : Hid (cmp3 (val da) (val db) = 0 ∨ cmp3 (val da) (val db) = 1) := by
    show _ ∨ _
    unfold cmp3
    split
    · exact .inr rfl
    · rw [if_neg (by omega)]; exact .inl rfl
  replace hle := Lib.hid hle
  go_enter Try.func37, Try.ntmps37
  go_wp2_with fail
  have hO0 : Outs ((((w.alloc (Obj.cells #[Value.bool na, Value.slice pa la ca] 83)).alloc (Obj.cells #[Value.bool nb, Value.slice pb lb cb] 83)).alloc (Obj.cells #[Value.bool false, Value.slice none 0 0] 83)).alloc (Obj.cells #[Value.bool na, Value.slice none 0 0] 83)) (w.heap.size + 1 + 1 + 1) (w.heap.size + 1 + 1) na (.slice none 0 0) [] := by
    have hx := Outs.made (((w.alloc (Obj.cells #[Value.bool na, Value.slice pa la ca] 83)).alloc (Obj.cells #[Value.bool nb, Value.slice pb lb cb] 83)).alloc (Obj.cells #[Value.bool false, Value.slice none 0 0] 83)) (w.heap.size + 1 + 1) na (by
      have := Box.made ((w.alloc (Obj.cells #[Value.bool na, Value.slice pa la ca] 83)).alloc (Obj.cells #[Value.bool nb, Value.slice pb lb cb] 83)) false none 0 0
      simpa using this) (by simp)
    simpa using hx
  have hH1 := hH0.out.keptTo (n := w.heap.size + 1 + 1) (((Below.refl _ _).alloc (by simp) (Obj.cells #[Value.bool false, Value.slice none 0 0] 83)).alloc (by simp) (Obj.cells #[Value.bool na, Value.slice none 0 0] 83)) (by omega)
  refine (larger_any na nb pa pb la lb ca cb da db _ hH1.a hH1.b (by omega) (by omega)).mono ?_
  rintro e w1 ⟨rfl, hb1⟩
  have hH2 := hH1.kept hb1
  have hO2 := hO0.kept hb1
  clear hO0 hH1 hb1
  have hc0 : ¬ cmp3 (val da) (val db) < 0 := by rcases hcmp.out with h | h <;> omega
  obtain ⟨t0, t1, t2, t3⟩ := hH2.two
  replace hH2 := Lib.hid hH2
  replace hO2 := Lib.hid hO2
  generalize cmp3 (val da) (val db) = cm at *
  go_wp2_with fail
  clear t0 t1 t2 t3
  go_loopw [6, 8] (fun c i wr => ∃ (k : Nat) (cv : Int) (os : List Int) (v : Value), k ≤ la ∧ c = .int .i64 cv ∧ i = .int .i64 k ∧ SubInv (dg da) (dg db) k cv os ∧ Hold w wr na nb pa pb la lb ca cb da db ∧ Outs wr (w.heap.size + 1 + 1 + 1) (w.heap.size + 1 + 1) na v os)
    (fun _ i _ => la - (intOf i).toNat)
  case atStart => exact ⟨0, 0, [], .slice none 0 0, by omega, rfl, rfl, SubInv.first _ _, hH2.out, hO2.out⟩
  case round =>
    clear hH2 hO2 hH0
    obtain ⟨k, cv, os, v, hk, rfl, rfl, inv, hH, hO⟩ := hrel
    have kl := inv.len
    obtain ⟨t0, t1, t2, t3⟩ := hH.two
    by_cases hlast : k = la
    · subst hlast
      have hval := Lib.hid (SubInv.last (da := da) (db := db) (c := cv) (os := os) (by rw [la'.out]; exact inv) fa.out fb.out hle.out)
      obtain ⟨p, cap, rfl, hlc, hpc, hrow, hbase⟩ := own_drow hO.own inv.digs
      have q0 := hO.c0
      have q1 := hO.c1
      replace hrow := Lib.hid hrow
      replace hpc := Lib.hid hpc
      replace hbase := Lib.hid hbase
      replace inv := Lib.hid inv
      replace hH := Lib.hid hH
      replace hO := Lib.hid hO
      rw [kl] at hlc
      rw [kl] at q1
      rw [kl] at hrow
      clear kl
      go_wp2_with fail
      refine (trim_full na p k cap os _ hrow.out hlc hpc.out (by omega)).mono ?_
      rintro e w2 ⟨neg', p', len', cap', ds', rfl, hrow', hlc', hpc', hlen', hN', hz', hb2, hsame⟩
      have hbox : Box w2 (w.heap.size + 1 + 1) := hO.out.box.kept hb2 (by have := hO.out.size; omega)
      obtain ⟨x, q, l, c, g0, g1, k0, k1⟩ := hbox.cells
      replace hsame := Lib.hid hsame
      have hB := Lib.hid (hH.out.bel.trans (hb2.mono hH.out.bel.size))
      replace hrow' := Lib.hid hrow'
      replace hpc' := Lib.hid hpc'
      replace hN' := Lib.hid hN'
      replace hz' := Lib.hid hz'
      replace hbox := Lib.hid hbox
      clear t0 t1 t2 t3 q0 q1 hb2
      go_wp2_with fail
      refine bodyPost_ret (v := .agg #[.bool neg', .slice p' len' cap']) (by simp [results, Try.results37, go_sem, g0, g1]) rfl ⟨neg', p', len', cap', ds', rfl, hbox.out.stored hrow'.out _ _, hlc', hpc'.out, hlen', ?_, hz'.out, ?_, ?_⟩
      · rw [hN'.out, hval.out]
      · exact (hB.out.setCell (by simp; omega) _).setCell (by simp; omega) _
      · intro b off h
        rcases hsame.out with h2 | h2
        · have := hbase.out b off (h2 ▸ h); omega
        · rw [h2] at h; cases h
    · have d0 := fa.out k
      have d1 := fb.out k
      have cc0 := inv.c0
      have cc1 := inv.c1
      have hnx := Lib.hid (fun d c' => inv.next d c')
      replace inv := Lib.hid inv
      replace hH := Lib.hid hH
      replace hO := Lib.hid hO
      generalize hx : dg da k = x at *
      generalize hy : dg db k = y at *
      replace hx := Lib.hid hx
      replace hy := Lib.hid hy
      replace kl := Lib.hid kl
      have hklt : (k : Int) < (la : Int) := by omega
      have e1 : IntKind.i64.wrap (x - y) = x - y := by rw [IntKind.wrap_i64]; omega
      have e2 : IntKind.i64.wrap (x - y - cv) = x - y - cv := by rw [IntKind.wrap_i64]; omega
      have hkl : k ≤ 1000000 := by omega
      go_upto_region 16 with (fail)
      go_region_held3 (fun w' => w'.cell? ⟨w.heap.size, 0, none⟩ = some (.bool na) ∧ w'.cell? ⟨w.heap.size, 1, none⟩ = some (.slice pa la ca) ∧ w'.cell? ⟨w.heap.size + 1, 0, none⟩ = some (.bool nb) ∧ w'.cell? ⟨w.heap.size + 1, 1, none⟩ = some (.slice pb lb cb))
        (first | exact hH.out.two | exact hH1.out.two | exact hH2.out.two)
        (first
          | (go_at_call 64; (with_reducible refine (digA (w := w) (nb := nb) (pb := pb) (lb := lb) (cb := cb) (db := db) (da := da) ?_ k ?_).mono ?_); exact hH.out.drew; exact hkl; rintro e w1 ⟨rfl, hH1, hb1⟩; rw [hx.out]; replace hH1 := Lib.hid hH1; have hO1 := Lib.hid (hO.out.drew.kept hb1); clear hb1)
          | (go_at_call 64; (with_reducible refine (digB (w := w) (na := na) (pa := pa) (la := la) (ca := ca) (da := da) (db := db) ?_ k ?_).mono ?_); exact hH1.out; exact hkl; rintro e w2 ⟨rfl, hH2, hb2⟩; rw [hy.out]; replace hH2 := Lib.hid hH2; have hO2 := Lib.hid (hO1.out.kept hb2); clear hb2))
      clear t0 t1 t2 t3 e1 e2 hH hH1 hO hO1
      by_cases hd : x - y - cv < 0
      · have inv' := Lib.hid (hnx.out (x - y - cv + 10000) 1 (by omega) (by omega) (by omega) (by omega) (by omega))
        obtain ⟨g, c, w', hrun, z1, z2, hO3, hb3⟩ := hO2.out.more (x - y - cv + 10000) (by rw [kl.out]; omega)
        have q1 := hO2.out.c1
        have hH3 := Lib.hid (hH2.out.keptTo hb3 (by omega))
        replace hO3 := Lib.hid hO3
        replace hb3 := Lib.hid hb3
        replace hrun := Lib.hid hrun
        go_wp2_with (at_builtin; refine wpList_app rfl _ _ _ _ rfl _ _ _ _ rfl rfl hrun.out ?_)
        go_roundw
        case rel => exact ⟨k + 1, 1, _, _, by omega, rfl, by go_num, inv'.out, hH3.out, hO3.out⟩
        case measure => simp [intOf]; omega
      · have inv' := Lib.hid (hnx.out (x - y - cv) 0 (by omega) (by omega) (by omega) (by omega) (by omega))
        obtain ⟨g, c, w', hrun, z1, z2, hO3, hb3⟩ := hO2.out.more (x - y - cv) (by rw [kl.out]; omega)
        have q1 := hO2.out.c1
        have hH3 := Lib.hid (hH2.out.keptTo hb3 (by omega))
        replace hO3 := Lib.hid hO3
        replace hb3 := Lib.hid hb3
        replace hrun := Lib.hid hrun
        go_wp2_with (at_builtin; refine wpList_app rfl _ _ _ _ rfl _ _ _ _ rfl rfl hrun.out ?_)
        go_roundw
        case rel => exact ⟨k + 1, 0, _, _, by omega, rfl, by go_num, inv'.out, hH3.out, hO3.out⟩
        case measure => simp [intOf]; omega

set_option maxRecDepth 100000 in
set_option maxHeartbeats 4000000 in
theorem add_ltF (na nb : Bool) (pa pb : Option Addr) (la lb ca cb : Nat) (da db : List Int) (w : World) (ha : DRow w pa la da) (hb : DRow w pb lb db) (hla : la ≤ 100000) (hlb : lb ≤ 100000)
    (hne : (na == nb) = false) (hlt : val da < val db) :
    Calls Try.prog 37 #[.agg #[.bool na, .slice pa la ca], .agg #[.bool nb, .slice pb lb cb]] w (RetF w lb (sgB nb (val db - val da))) := by
  have hH0 := Lib.hid (Hold.made (na := na) (nb := nb) (ca := ca) (cb := cb) ha hb)
  clear ha hb
  have hcmp : Hid (cmp3 (val da) (val db) = -1) := by
    show _ = _
    unfold cmp3
    rw [if_neg (by omega), if_pos hlt]
  replace hlt := Lib.hid hlt
  go_enter Try.func37, Try.ntmps37
  go_wp2_with fail
  have hbox0 : Box ((((w.alloc (Obj.cells #[Value.bool na, Value.slice pa la ca] 83)).alloc (Obj.cells #[Value.bool nb, Value.slice pb lb cb] 83)).alloc (Obj.cells #[Value.bool false, Value.slice none 0 0] 83)).alloc (Obj.cells #[Value.bool na, Value.slice none 0 0] 83)) (w.heap.size + 1 + 1) := by
    have := Box.made ((w.alloc (Obj.cells #[Value.bool na, Value.slice pa la ca] 83)).alloc (Obj.cells #[Value.bool nb, Value.slice pb lb cb] 83)) false none 0 0
    have h2 := this.kept ((Below.refl _ _).alloc (Nat.le_refl _) (Obj.cells #[Value.bool na, Value.slice none 0 0] 83)) (by simp)
    simpa using h2
  have hH1 := hH0.out.keptTo (n := w.heap.size + 1 + 1) (((Below.refl _ _).alloc (by simp) (Obj.cells #[Value.bool false, Value.slice none 0 0] 83)).alloc (by simp) (Obj.cells #[Value.bool na, Value.slice none 0 0] 83)) (by omega)
  refine (larger_any na nb pa pb la lb ca cb da db _ hH1.a hH1.b (by omega) (by omega)).mono ?_
  rintro e w1 ⟨rfl, hb1⟩
  rw [hcmp.out]
  have hH2 := hH1.kept hb1
  have hbox1 := hbox0.kept hb1 (by simp)
  have hs1 := hb1.size
  simp at hs1
  clear hH1 hb1 hbox0
  obtain ⟨t0, t1, t2, t3⟩ := hH2.two
  replace hH2 := Lib.hid hH2
  replace hbox1 := Lib.hid hbox1
  go_wp2_with fail
  refine (add_geF nb na pb pa lb la cb ca db da _ hH2.out.b hH2.out.a hlb hla (by cases na <;> cases nb <;> simp_all) (Int.le_of_lt hlt.out)).mono ?_
  rintro e w2 ⟨neg', p', len', cap', ds', rfl, hrow', hlc', hpc', hlen', hN', hz', hb2, hfresh⟩
  have hbox : Box w2 (w.heap.size + 1 + 1) := hbox1.out.kept hb2 (by omega)
  obtain ⟨x, q, l, c, g0, g1, k0, k1⟩ := hbox.cells
  replace hfresh := Lib.hid hfresh
  have hsz := hH2.out.bel.size
  have hB := Lib.hid (hH2.out.bel.trans (hb2.mono hH2.out.bel.size))
  replace hrow' := Lib.hid hrow'
  replace hpc' := Lib.hid hpc'
  replace hN' := Lib.hid hN'
  replace hz' := Lib.hid hz'
  replace hbox := Lib.hid hbox
  clear t0 t1 t2 t3 hb2
  go_wp2_with fail
  refine bodyPost_ret (v := .agg #[.bool neg', .slice p' len' cap']) (by simp [results, Try.results37, go_sem, g0, g1]) rfl ⟨neg', p', len', cap', ds', rfl, hbox.out.stored hrow'.out _ _, hlc', hpc'.out, hlen', hN'.out, hz'.out, ?_, fun b off h => Nat.le_trans hsz (hfresh.out b off h)⟩
  exact (hB.out.setCell (by simp; omega) _).setCell (by simp; omega) _


theorem RetF.more {w : World} {L L' : Nat} {N N' : Int} {e : Ending} {w' : World} (h : RetF w L N e w') (hL : L ≤ L') (hN : N = N') : RetF w L' N' e w' := by
  obtain ⟨neg, p, len, cap, ds, h1, h2, h3, h4, h5, h6, h7⟩ := h
  exact ⟨neg, p, len, cap, ds, h1, h2, h3, h4, Nat.le_trans h5 hL, h6.trans hN, h7⟩
/-- a sum of exact numbers -/
theorem addF_any (v v' : Value) (L : Nat) (N N' : Int) (w : World) (h : IsB w v L N) (h' : IsB w v' L N') (hL : L ≤ 100000) :
    Calls Try.prog 37 #[v, v'] w (RetF w (L + 1) (N + N')) := by
  obtain ⟨na, pa, la, ca, da, rfl, ha, _, _, hla, hN, _⟩ := h
  obtain ⟨nb, pb, lb, cb, db, rfl, hb, _, _, hlb, hN', _⟩ := h'
  by_cases hs : na = nb
  · subst hs
    have hM : la < lb ∧ lb = max la lb ∨ ¬ la < lb ∧ la = max la lb := by omega
    refine (add_sameF na pa pb la lb ca cb (max la lb) da db w ha hb (by omega) (by omega) hM).mono fun e w' hr => hr.more (by omega) ?_
    rw [← hN, ← hN']
    unfold sgB
    cases na <;> simp <;> omega
  · have hne : (na == nb) = false := by simpa using hs
    rcases Int.lt_or_le (val da) (val db) with hlt | hle
    · refine (add_ltF na nb pa pb la lb ca cb da db w ha hb (by omega) (by omega) hne hlt).mono fun e w' hr => hr.more (by omega) ?_
      rw [← hN, ← hN']
      unfold sgB
      cases na <;> cases nb <;> simp at hs ⊢ <;> omega
    · refine (add_geF na nb pa pb la lb ca cb da db w ha hb (by omega) (by omega) hne hle).mono fun e w' hr => hr.more (by omega) ?_
      rw [← hN, ← hN']
      unfold sgB
      cases na <;> cases nb <;> simp at hs ⊢ <;> omega
end Go.Proofs.Ytllhpdohahoelaa
