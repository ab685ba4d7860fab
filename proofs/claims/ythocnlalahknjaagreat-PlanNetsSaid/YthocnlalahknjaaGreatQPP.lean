/- The contracts of own and of the document's Same of dues. -/
import Derived.Test.YthocnlalahknjaaGreatQPO
namespace Go.Proofs.YthocnlalahknjaaGreat.Dd
open Go.RowKit Go.Maps
set_option linter.unusedVariables false

theorem info62 : (Tryz.prog.info? 62).map (fun i => (i.zero, i.size, i.bytes)) = some (some (.agg #[.int .i64 0, .int .i64 0, .int .i64 0, .int .i64 0]), 4, 32) := by kernel_rfl
/-- a row of the document's dues, new since w -/
structure UO (w wr : World) (u : Value) (l : List Du) : Prop where
  row : wr.ownsRow 0 62 4 u l.length (cellsU l)
  own : ∀ g, u.ownBlock = some g → w.heap.size ≤ g
  bl : Below w.heap.size w wr
theorem UO.seq {w wr : World} {u : Value} {l : List Du} (h : UO w wr u l) : USeq wr u l := by
  obtain ⟨p, cap, rfl, hc, -, hp⟩ := orow_shape h.row
  refine ⟨p, cap, rfl, hc, ?_⟩
  cases l with
  | nil => exact .inl rfl
  | cons d r =>
    obtain ⟨g, c1, cur, e1, _⟩ := orow_some h.row (by simp)
    injection e1 with e1 _ _
    subst e1
    refine .inr ⟨g, 0, rfl, (World.ownsRow.lt h.row g rfl).2, fun i hi j u hu => ?_⟩
    rw [Nat.zero_add]
    have hj : j < 4 := by
      have := (List.getElem?_eq_some_iff.1 hu).1
      rwa [Du.cs_len] at this
    exact orow_cell h.row rfl ((cellsU_at hi j hj).trans hu)
theorem boxU62 {W : World} {g : Nat} (x : Du) (h : W.heap[g]? = some (.cells x.cs.toArray 62 (0, 0))) : ∀ (j : Nat) (u : Value), x.cs[j]? = some u → W.cell? ((⟨g, 0, none⟩ : Addr).add j) = some u := fun j u hu => by
  have e : (⟨g, 0, none⟩ : Addr).add j = ⟨g, j, none⟩ := by unfold Addr.add; split <;> simp_all
  rw [e]; exact obj_cell h (by simpa using hu)

set_option maxHeartbeats 4000000 in
set_option maxRecDepth 100000 in
theorem own_any (v : Value) (l : List Du) (w : World) (h : USeq w v l) (hlen : l.length ≤ 1000000) :
    Calls Tryz.prog 17 #[v] w fun e w' => ∃ u, e = .returned u ∧ USeq w' u l ∧ Below w.heap.size w w' := by
  have h0 : UO w w (.slice none 0 0) (l.take 0) := ⟨World.ownsRow_nil _ _ _ _, (fun g hg => by simp [Value.ownBlock] at hg), Below.refl _ _⟩
  obtain ⟨p, cap, rfl, hcap, hrd⟩ := h
  obtain ⟨n, hn⟩ : ∃ n, n = l.length := ⟨_, rfl⟩
  rw [← hn]
  have hn1 : n ≤ 1000000 := by omega
  replace hrd := Lib.hid hrd
  replace h0 := Lib.hid h0
  replace hn := Lib.hid hn
  clear hcap hlen
  go_enter Tryz.func17, Tryz.ntmps17
  go_wp2_with fail
  go_loopw [3, 8] (fun u i wr => ∃ k : Nat, k ≤ n ∧ i = .int .i64 (k : Int) ∧ Hid (UO w wr u (l.take k))) (fun _ i _ => n - (intOf i).toNat)
  case atStart => exact ⟨0, by omega, rfl, h0⟩
  case round =>
    obtain ⟨k, hk, rfl, hS⟩ := hrel
    by_cases hkn : k < n
    · have hkl : k < l.length := by have := hn.out; omega
      obtain ⟨b, off, rfl, hlt, hall⟩ := hrd.out.resolve_left (by rintro rfl; simp at hkl)
      have hbl := hS.out.bl
      have e0 := (hbl.cell (p := ⟨b, off + k * 4 + 0, none⟩) hlt).trans (hall k hkl 0 _ rfl)
      have e1 := (hbl.cell (p := ⟨b, off + k * 4 + 1, none⟩) hlt).trans (hall k hkl 1 _ rfl)
      have e2 := (hbl.cell (p := ⟨b, off + k * 4 + 2, none⟩) hlt).trans (hall k hkl 2 _ rfl)
      have e3 := (hbl.cell (p := ⟨b, off + k * 4 + 3, none⟩) hlt).trans (hall k hkl 3 _ rfl)
      rw [Nat.add_zero] at e0
      have hgl : b < wr.heap.size := Nat.lt_of_lt_of_le hlt hbl.size
      have htl : (l.take k).length ≤ 1000000 := by rw [List.length_take]; have := hn.out; omega
      have hle : Hid ((l.take k).length ≤ 1000000) := Lib.hid htl
      have hyes : ∀ o o', ((wr.alloc o).alloc o').ownsRow 0 62 4 u3 (l.take k).length (cellsU (l.take k)) ∧
          (∀ v' w', w'.ownsRow 0 62 4 v' ((l.take k).length + 1) (cellsU (l.take k) ++ l[k].cs) → ((wr.alloc o).alloc o').grownBy w' u3.ownBlock → (∀ g', v'.ownBlock = some g' → u3.ownBlock = some g' ∨ wr.heap.size + 1 + 1 ≤ g') → UO w w' v' (l.take (k + 1))) := fun o o' => by
        have r1 := orow_kept (w' := wr.alloc o) hS.out.row fun g' hg' => Below.heap_alloc _ _ _ (World.ownsRow.lt hS.out.row g' hg').2
        have r2 := orow_kept (w' := (wr.alloc o).alloc o') r1 fun g' hg' => Below.heap_alloc _ _ _ (World.ownsRow.lt r1 g' hg').2
        refine ⟨r2, fun v' w' h1 h2 h3 => ⟨?_, fun g' hg' => ?_, below_grown ((hbl.alloc hbl.size o).alloc (by have := hbl.size; simp; omega) o') h2 hS.out.own (Nat.le_refl _)⟩⟩
        · rw [List.take_succ_eq_append_getElem hkl, cellsU_app, List.length_append]; exact h1
        · rcases h3 g' hg' with h4 | h4
          · exact hS.out.own g' h4
          · have := hS.out.bl.size; omega
      have hsz := Lib.hid hS.out.bl.size
      clear hall htl
      obtain ⟨T1, hT1⟩ : ∃ T1, T1 = l.take k := ⟨_, rfl⟩
      obtain ⟨T2, hT2⟩ : ∃ T2, T2 = l.take (k + 1) := ⟨_, rfl⟩
      rw [← hT1] at hyes hle
      rw [← hT2] at hyes
      replace hT1 := Lib.hid hT1
      replace hT2 := Lib.hid hT2
      generalize l[k] = x at *
      have hnewC : ∀ (j : Nat) (u : Value), x.cs[j]? = some u → ((wr.alloc (.cells x.cs.toArray 39)).alloc (.cells x.cs.toArray 62)).cell? ((⟨wr.heap.size + 1, 0, none⟩ : Addr).add j) = some u := boxU62 x (new_two wr _ _)
      have h1c := x.cs_one
      replace hnewC := Lib.hid hnewC
      replace h1c := Lib.hid h1c
      replace hyes := Lib.hid hyes
      clear hbl
      go_wp2_with (at_builtin; refine wpList_app1 42 62 4 32 _ Tryz.underlying42 info62 (by rfl) (by omega) (by omega) rfl _ _ rfl rfl _ _ _ rfl (hyes.out _ _).1 ⟨wr.heap.size + 1, 0, none⟩ x.cs rfl rfl hnewC.out h1c.out (by have := hle.out; omega) ?_)
      intro v' w' hr' hg' hv'
      go_wp2_with fail
      go_roundw
      case rel => exact ⟨k + 1, by omega, by go_num, Lib.hid (by rw [← hT2.out]; exact (hyes.out _ _).2 _ _ hr' hg' hv')⟩
      case measure => simp [intOf]; omega
    · obtain rfl : k = n := by omega
      have hkz : ¬ (k : Int) < (k : Int) := by omega
      have hS2 : UO w wr u3 l := by have h1 := hS.out; have h2 := hn.out; rw [h2, List.take_length] at h1; exact h1
      replace hS2 := Lib.hid hS2
      clear hS
      go_wp2_with fail
      go_ret
      exact ⟨_, rfl, hS2.out.seq, hS2.out.bl⟩

theorem eq62a : Tryz.prog.underlying 62 = some (.struct (Tryz.prog.fieldsOf 62)) := by kernel_rfl
theorem eq62b : Tryz.prog.stoodInHeld 62 = false := by kernel_rfl
theorem eq62d : Tryz.prog.fieldsOf 62 = #[⟨"Member", 3, 0, false, "", "", 0⟩, ⟨"Cur", 3, 1, false, "", "", 8⟩, ⟨"At", 3, 2, false, "", "", 16⟩, ⟨"Amount", 2, 3, false, "", "", 24⟩] := by kernel_rfl
def Du.same (d e : Du) : Bool := d.m == e.m && (d.c == e.c && (d.t == e.t && d.n == e.n))
theorem Du.same_iff {d e : Du} : d.same e = true ↔ d = e := by
  obtain ⟨a1, a2, a3, a4⟩ := d
  obtain ⟨b1, b2, b3, b4⟩ := e
  unfold Du.same
  simp
theorem neq_due (d e : Du) (w : World) : (binOp .neq 62 d.val e.val).run Tryz.prog w = .ok (.bool (!d.same e)) w := by
  have e0 := Tryz.underlying3
  have e1 := Tryz.underlying2
  unfold Du.val Du.same
  rw [run_neq_struct, run_equalIn_agg w 9999 62 _ _ eq62a eq62b, eq62d]
  simp [Op.eqFields, go_sem, e0, e1]
  (repeat' split) <;> simp_all
theorem drewN_drewN (w : World) (m k : Nat) : (w.drewN m).drewN k = w.drewN (m + k) := by simp [World.drewN, Nat.add_assoc]
set_option maxHeartbeats 2000000 in
set_option maxRecDepth 100000 in
theorem sameU_any (u v : Value) (a b : List Du) (w : World) (ha : USeq w u a) (hb : USeq w v b) (hla : a.length ≤ 1000000) (hlb : b.length ≤ 1000000) :
    Calls Tryz.prog 18 #[u, v] w fun e w' => e = .returned (.bool (decide (a = b))) ∧ ∃ n, w' = w.drewN n := by
  obtain ⟨p, ca, rfl, -, hra⟩ := ha
  obtain ⟨q, cb, rfl, -, hrb⟩ := hb
  obtain ⟨R, hR⟩ : ∃ R, R = decide (a = b) := ⟨_, rfl⟩
  rw [← hR]
  by_cases hl : a.length = b.length
  · have hz : (a.length : Int) = (b.length : Int) := by omega
    have hfin : (∀ k, k < a.length → a.getD k default = b.getD k default) → R = true := fun h => by
      rw [hR, decide_eq_true_iff]
      refine List.ext_getElem hl fun k h1 h2 => ?_
      have := h k h1
      simpa [List.getD_eq_getElem?_getD, List.getElem?_eq_getElem h1, List.getElem?_eq_getElem h2] using this
    have hno : ∀ k, k < a.length → ¬ a.getD k default = b.getD k default → R = false := fun k hk hne => by
      rw [hR, decide_eq_false_iff_not]; intro e; exact hne (by rw [e])
    have hrow : ∀ k, k < a.length → ∃ g o h o2, p = some ⟨g, o, none⟩ ∧ q = some ⟨h, o2, none⟩ ∧ (∀ j t, (a.getD k default).cs[j]? = some t → w.cell? ⟨g, o + k * 4 + j, none⟩ = some t) ∧ (∀ j t, (b.getD k default).cs[j]? = some t → w.cell? ⟨h, o2 + k * 4 + j, none⟩ = some t) := fun k hk => by
      obtain ⟨g, o, rfl, _, h1⟩ := hra.resolve_left (by rintro rfl; simp at hk)
      have hkb : k < b.length := by rw [← hl]; exact hk
      obtain ⟨h, o2, rfl, _, h2⟩ := hrb.resolve_left (by rintro rfl; simp at hkb)
      refine ⟨g, o, h, o2, rfl, rfl, fun j t ht => ?_, fun j t ht => ?_⟩
      · rw [List.getD_eq_getElem?_getD, List.getElem?_eq_getElem hk] at ht; exact h1 k hk j t ht
      · rw [List.getD_eq_getElem?_getD, List.getElem?_eq_getElem hkb] at ht; exact h2 k hkb j t ht
    replace hrow := Lib.hid hrow
    replace hfin := Lib.hid hfin
    replace hno := Lib.hid hno
    replace hR := Lib.hid hR
    clear hra hrb
    rw [← hl]
    generalize hn : a.length = n at *
    clear hz hl hn hlb
    go_enter Tryz.func18, Tryz.ntmps18
    go_wp2_with fail
    go_loopw [5] (fun i wr => ∃ k : Nat, k ≤ n ∧ i = .int .i64 (k : Int) ∧ Hid ((∀ j, j < k → a.getD j default = b.getD j default) ∧ ∃ m, wr = w.drewN m)) (fun i _ => n - (intOf i).toNat)
    case atStart => exact ⟨0, by omega, rfl, Lib.hid ⟨fun j hj => by omega, 0, rfl⟩⟩
    case round =>
      obtain ⟨k, hk, rfl, hS⟩ := hrel
      by_cases hkn : k < n
      · obtain ⟨g, o, h, o2, rfl, rfl, c1, c2⟩ := hrow.out k hkn
        obtain ⟨hS1, m, rfl⟩ := hS.out
        replace hS1 := Lib.hid hS1
        have hno2 := hno.out k hkn
        have hok2 : a.getD k default = b.getD k default → ∀ j, j < k + 1 → a.getD j default = b.getD j default := fun e j hj => by
          by_cases hjk : j = k
          · subst hjk; exact e
          · exact hS1.out j (by omega)
        clear hS
        generalize a.getD k default = x at *
        generalize b.getD k default = y at *
        have hsm := fun W => neq_due x y W
        have hsmi := @Du.same_iff x y
        have a0 := c1 0 _ rfl
        have a1 := c1 1 _ rfl
        have a2 := c1 2 _ rfl
        have a3 := c1 3 _ rfl
        have b0 := c2 0 _ rfl
        have b1 := c2 1 _ rfl
        have b2 := c2 2 _ rfl
        have b3 := c2 3 _ rfl
        rw [Nat.add_zero] at a0 b0
        unfold Du.val at hsm
        replace hok2 := Lib.hid hok2
        replace hno2 := Lib.hid hno2
        clear c1 c2
        cases hq : x.same y with
        | true =>
          rw [hq] at hsm
          have hxy := hsmi.1 hq
          replace hxy := Lib.hid hxy
          replace hsmi := True.intro
          go_upto_region 6 with fail
          go_quiet (fail)
          go_wp2_with fail
          go_roundw
          case rel => exact ⟨k + 1, by omega, by go_num, Lib.hid ⟨hok2.out hxy.out, _, rfl⟩⟩
          case measure => simp [intOf]; omega
        | false =>
          rw [hq] at hsm
          have hRf : R = false := hno2.out fun e => by rw [hsmi.2 e] at hq; cases hq
          replace hRf := Lib.hid hRf
          replace hsmi := True.intro
          go_upto_region 6 with fail
          go_quiet (fail)
          go_wp2_with fail
          go_ret
          exact ⟨by rw [hRf.out]; rfl, _, drewN_drewN _ _ _⟩
      · obtain rfl : k = n := by omega
        have hkz : ¬ (k : Int) < (k : Int) := by omega
        obtain ⟨hS1, m, rfl⟩ := hS.out
        have hRt : R = true := hfin.out hS1
        replace hRt := Lib.hid hRt
        clear hS hS1
        go_wp2_with fail
        go_ret
        exact ⟨by rw [hRt.out]; rfl, _, rfl⟩
  · have hRf : R = false := by rw [hR, decide_eq_false_iff_not]; intro e; exact hl (by rw [e])
    have hz : ¬ (a.length : Int) = (b.length : Int) := by omega
    have hzb : ((a.length : Int) != (b.length : Int)) = true := by simpa using hz
    replace hRf := Lib.hid hRf
    clear hra hrb
    generalize a.length = n at *
    generalize b.length = m at *
    go_enter Tryz.func18, Tryz.ntmps18
    go_wp2_with fail
    go_ret
    exact ⟨by rw [hRf.out]; rfl, 0, rfl⟩
end Go.Proofs.YthocnlalahknjaaGreat.Dd
