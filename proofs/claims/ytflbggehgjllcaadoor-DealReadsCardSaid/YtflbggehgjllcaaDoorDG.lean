/- The contracts of add, learn, Submit. -/
import Derived.Test.YtflbggehgjllcaaDoorDF
namespace Go.Proofs.YtflbggehgjllcaaDoor
open Go.RowKit Go.Maps
set_option linter.unusedVariables false
section
variable {P : Nat → Prop} {w : World} {gb : Nat} {b : Bk} {v : Value} {mb : Nat} {D : DataW Value}
theorem IxD.app {D : DataW Value} {l : List En} (h : IxD D l) (x : En) (hid : In64 x.d.id) (hn : atL l x.d.id = none) : IxD (D.put (.int .i64 x.d.id) (.lit (.int .i64 (l.length : Nat)))) (l ++ [x]) := by
  refine ⟨h.isMap.put _ _, fun id hi => ?_, fun id i hi ha => ?_⟩
  · by_cases e : id = x.d.id
    · subst e
      rw [Maps.has_put_same h.isMap (keyInt.key (key_int hid)), atL_app, hn]; simp
    · rw [Maps.has_put_other (fun e2 => e (by injection e2)), h.has id hi, atL_app]
      rcases atL l id with _ | k
      · simp [Ne.symm e]
      · simp
  · rw [atL_app] at ha
    by_cases e : id = x.d.id
    · subst e
      rw [hn] at ha
      simp at ha
      subst ha
      rw [Maps.atKey_put_same h.isMap (keyInt.key (key_int hid))]
    · rw [Maps.atKey_put_other (fun e2 => e (by injection e2))]
      rcases hk : atL l id with _ | k
      · rw [hk] at ha; simp [Ne.symm e] at ha
      · rw [hk] at ha; simp at ha; subst ha; exact h.at_ id k hi hk
theorem PBv.boxed (h : PBv P w gb b v mb D) (x : En) : (w.alloc (.cells x.cs.toArray 65)).cell? ⟨w.heap.size, 0, none⟩ = some (.int .i64 x.d.id) ∧ (w.alloc (.cells x.cs.toArray 65)).cell? ⟨w.heap.size, 1, none⟩ = some (.int .i64 x.d.a) ∧ (w.alloc (.cells x.cs.toArray 65)).cell? ⟨w.heap.size, 2, none⟩ = some (.int .i64 x.d.b) ∧ (w.alloc (.cells x.cs.toArray 65)).cell? ⟨w.heap.size, 3, none⟩ = some (.int .i64 x.d.sc) ∧ (w.alloc (.cells x.cs.toArray 65)).cell? ⟨w.heap.size, 4, none⟩ = some (.int .i64 x.d.bc) ∧ (w.alloc (.cells x.cs.toArray 65)).cell? ⟨w.heap.size, 5, none⟩ = some (.int .i64 x.d.s) ∧ (w.alloc (.cells x.cs.toArray 65)).cell? ⟨w.heap.size, 6, none⟩ = some (.int .i64 x.d.t) ∧ (w.alloc (.cells x.cs.toArray 65)).cell? ⟨w.heap.size, 7, none⟩ = some (.int .i64 x.st) ∧ (w.alloc (.cells x.cs.toArray 65)).cell? ⟨w.heap.size, 8, none⟩ = some (.int .i64 x.ask) ∧ (w.alloc (.cells x.cs.toArray 65)).cell? ⟨w.heap.size, 9, none⟩ = some (.int .i64 x.nth) := by
  have hn := heap_alloc_new w (.cells x.cs.toArray 65)
  exact ⟨obj_cell hn rfl, obj_cell hn rfl, obj_cell hn rfl, obj_cell hn rfl, obj_cell hn rfl, obj_cell hn rfl, obj_cell hn rfl, obj_cell hn rfl, obj_cell hn rfl, obj_cell hn rfl⟩
/-- what add has to lay behind the map's turn -/
theorem PBv.added {w1 w2 : World} {p : Option Addr} {cap : Nat} (h : PBv P w1 gb b (.slice p b.l.length cap) mb D) (x : En) (hid : In64 x.d.id) (hn : atL b.l x.d.id = none) (hlen : b.l.length ≤ 1000) (hf : ∀ i, w1.heap.size ≤ i → P i)
    (hm : w2.ownsMap Tryd.prog 3 (plainElem Tryd.prog 3) mb (b.l.length + 1) (D.put (.int .i64 x.d.id) (.lit (.int .i64 (b.l.length : Nat))))) (hg : w1.grownBy w2 (some mb)) :
    Kp (fun j => j = mb) w1 w2 ∧ w2.heap[gb]? = w1.heap[gb]? ∧ ∃ v3 w3, (Builtin.append_ #[54, 54] 54 #[.slice p b.l.length cap, .slice (some ⟨w2.drew.heap.size, 0, none⟩) 1 1]).run Tryd.prog (w2.drew.alloc (.cells x.cs.toArray 65)) = .ok v3 w3 ∧
      w3.heap[gb]? = w1.heap[gb]? ∧ Kp P w1 w3 ∧ PBv P (w3.setCell ⟨gb, 2, none⟩ v3) gb { b with l := b.l ++ [x] } v3 mb (D.put (.int .i64 x.d.id) (.lit (.int .i64 (b.l.length : Nat)))) := by
  have hK : Kp (fun j => j = mb) w1 w2 := ((Kp.refl _ _).grown hg fun k hk => .inl (by injection hk with hk; exact hk.symm))
  have hgb : w2.heap[gb]? = w1.heap[gb]? := hK.block gb h.lt h.ng
  have hrow2 : (w2.drew.alloc (.cells x.cs.toArray 65)).ownsRow 0 65 10 (.slice p b.l.length cap) b.l.length (cellsE b.l) :=
    orow_kept (orow_kp h.row hK fun g hg e => h.nm (by rw [hg, e])) fun g hg => Below.heap_alloc _ _ _ (Nat.lt_of_lt_of_le (World.ownsRow.lt h.row g hg).2 hK.size)
  obtain ⟨v3, w3, hr, ho, hg3, hv3⟩ := app1_run 54 65 10 80 _ Tryd.underlying54 info65 (by rfl) (by omega) (by omega) (w2.drew.alloc (.cells x.cs.toArray 65)) _ _ _ hrow2 ⟨w2.drew.heap.size, 0, none⟩ x.cs rfl (fun j u hu => by
    have e : (⟨w2.drew.heap.size, 0, none⟩ : Addr).add j = ⟨w2.drew.heap.size, j, none⟩ := by unfold Addr.add; split <;> simp_all
    rw [e]; exact obj_cell (heap_alloc_new w2.drew _) (by simpa using hu)) x.cs_one (by omega)
  have hK3 : Kp P w1 w3 := (((hK.mono (G := P) fun j _ e => by rw [e]; exact h.pm).drew.alloc _).grown hg3 fun k hk => .inl (h.pv k hk))
  have hw3 : w3.heap[gb]? = w1.heap[gb]? := by
    have hl : gb < (w2.drew.alloc (.cells x.cs.toArray 65)).heap.size := by have h1 := h.lt; have h2 := hK.size; have h3 : w2.drew.heap.size = w2.heap.size := rfl; simp; omega
    rw [hg3.block gb hl fun e => h.nv e.symm, Below.heap_alloc w2.drew _ _ (Nat.lt_of_lt_of_le h.lt hK.size)]
    exact hgb
  have hmb : mb < w2.heap.size := hm.lt
  have hmap3 : w3.heap[mb]? = w2.heap[mb]? := by
    rw [hg3.block mb (by simp; exact Nat.lt_succ_of_lt hmb) fun e => h.nm e.symm, Below.heap_alloc w2.drew _ _ hmb]; rfl
  have hobj3 := hw3.trans h.obj
  have hnew : ∀ g, v3.ownBlock = some g → g ≠ gb ∧ g ≠ mb ∧ P g := fun g hg => by
    rcases hv3 g hg with h4 | h4
    · exact ⟨fun e => h.nv (by rw [h4, e]), fun e => h.nm (by rw [h4, e]), h.pv g h4⟩
    · have h5 := h.lt
      have h6 := hK.size
      have h7 : w2.drew.heap.size = w2.heap.size := rfl
      simp at h4
      exact ⟨by omega, by omega, hf g (by omega)⟩
  refine ⟨hK, hgb, v3, w3, hr, hw3, hK3, ?_⟩
  refine ⟨obj_set hobj3 2 _, ?_, own_block (own_block (by rw [List.length_append]; exact hm) hmap3) (obj_other _ fun e => h.ng (by have e2 : mb = gb := e; exact e2.symm)), h.ix.app x hid hn, h.pg, h.pm, fun g hg => (hnew g hg).2.2⟩
  rw [cellsE_app, List.length_append]
  exact orow_kept ho fun g hg => obj_other _ (hnew g hg).1
set_option maxHeartbeats 2000000 in
set_option maxRecDepth 100000 in
theorem add_any (h : PB P w gb b) (x : En) (hid : In64 x.d.id) (hn : atL b.l x.d.id = none) (hlen : b.l.length ≤ 1000) (hf : ∀ i, w.heap.size ≤ i → P i) :
    Calls Tryd.prog 40 #[.pointer (some ⟨gb, 0, none⟩), x.val] w fun e w' => e = .returned (.tuple #[]) ∧ PB P w' gb { b with l := b.l ++ [x] } ∧ Kp P w w' := by
  obtain ⟨v, mb, D, h⟩ := h
  have hb1 : Below w.heap.size w (w.alloc (.cells x.cs.toArray 65)) := (Below.refl _ _).alloc (Nat.le_refl _) _
  have h1 := h.below hb1
  obtain ⟨p, cap, rfl, -, -, -⟩ := orow_shape h.row
  have c2 : (w.alloc (.cells x.cs.toArray 65)).cell? ⟨gb, 2, none⟩ = some (.slice p b.l.length cap) := obj_cell h1.obj rfl
  have c3 : (w.alloc (.cells x.cs.toArray 65)).cell? ⟨gb, 3, none⟩ = some (.map (some mb)) := obj_cell h1.obj rfl
  obtain ⟨x0, x1, x2, x3, x4, x5, x6, x7, x8, x9⟩ := h.boxed x
  have hgl := h.lt
  have hown : Hid ((w.alloc (.cells x.cs.toArray 65)).drew.ownsMap Tryd.prog 3 (plainElem Tryd.prog 3) mb b.l.length D) := Lib.hid h1.map
  have hkey := key_int hid
  have hval : plainElem (H := Value) Tryd.prog 3 (.int .i64 (b.l.length : Nat)) = some (.lit (.int .i64 (b.l.length : Nat)), []) := plainElem_int Tryd.underlying3 (WalkArith.wf_i64 (by omega))
  have hnm : b.l.length < maxLen := by unfold maxLen; omega
  have hadd := fun w2 => h1.added (w2 := w2) x hid hn hlen fun i hi => hf i (by have := hb1.size; omega)
  have hnew := heap_alloc_new w (.cells x.cs.toArray 65)
  have hsz : (w.alloc (.cells x.cs.toArray 65)).heap.size = w.heap.size + 1 := by simp
  have hmw : mb ≠ w.heap.size := by have := h.map.lt; omega
  have hgbw : gb ≠ mb := h.ng
  replace h := Lib.hid h
  replace h1 := Lib.hid h1
  replace hkey := Lib.hid hkey
  replace hval := Lib.hid hval
  replace hb1 := Lib.hid hb1
  replace hadd := Lib.hid hadd
  replace hnew := Lib.hid hnew
  replace hsz := Lib.hid hsz
  unfold En.val
  unfold En.cs at *
  go_enter Tryd.func40, Tryd.ntmps40
  go_wp2_with fail
  generalize w.alloc _ = w1 at *
  go_still_tail 12, (by kernel_rfl)
  change wpList _ _ _ _ _ (World.drew _)
  refine wpList_mapUpdate_own _ rfl _ _ _ 53 rfl 3 3 keyInt Tryd.underlying53 _ mb _ D rfl hown.out hnm _ _ (.int .i64 x.d.id) rfl rfl hkey.out (.lit (.int .i64 (b.l.length : Nat))) [] hval.out ?_
  intro w2 hm2 hg2
  obtain ⟨hK2, hgb2, v3, w3, hr3, hw3, hK3, hfin⟩ := hadd.out w2 hm2 ⟨hg2.os, hg2.tape, hg2.output, hg2.size, hg2.block⟩
  have hwx : ¬ w.heap.size = mb := fun e => hmw e.symm
  have hgl1 : gb < w2.heap.size := Nat.lt_of_lt_of_le h1.out.lt hK2.size
  have hxl1 : w.heap.size < w2.heap.size := Nat.lt_of_lt_of_le (by have := hsz.out; omega) hK2.size
  replace c2 := hK2.cell c2 hgbw
  replace x0 := hK2.cell x0 hwx
  replace x1 := hK2.cell x1 hwx
  replace x2 := hK2.cell x2 hwx
  replace x3 := hK2.cell x3 hwx
  replace x4 := hK2.cell x4 hwx
  replace x5 := hK2.cell x5 hwx
  replace x6 := hK2.cell x6 hwx
  replace x7 := hK2.cell x7 hwx
  replace x8 := hK2.cell x8 hwx
  replace x9 := hK2.cell x9 hwx
  have hob3 := hw3.trans h1.out.obj
  have c6 : w3.cell? ⟨gb, 2, none⟩ = some (.slice p b.l.length cap) := obj_cell hob3 rfl
  have z6 := obj_free hob3 2
  have c2a : ∀ o, (w2.drew.alloc o).cell? ⟨gb, 2, none⟩ = some (.slice p b.l.length cap) := fun o => by rw [World.cell?_alloc_lt _ _ _ (by exact hgl1)]; exact c2
  have hfin2 : PB P (w3.setCell ⟨gb, 2, none⟩ v3) gb { b with l := b.l ++ [x] } ∧ Kp P w (w3.setCell ⟨gb, 2, none⟩ v3) :=
    ⟨⟨_, _, _, hfin⟩, ((Kp.of_below (F := P) hb1.out).trans hK3).setCell (.inl h1.out.pg) _⟩
  obtain ⟨p3, cap3, hv3, -, -, -⟩ := orow_shape hfin.row
  clear hfin
  have hv3' : ∃ n3, v3 = .slice p3 n3 cap3 := ⟨_, hv3⟩
  clear hv3
  obtain ⟨n3, rfl⟩ := hv3'
  replace hfin2 := Lib.hid hfin2
  replace hr3 := Lib.hid hr3
  clear hw3 hK3 hK2 hgb2 hm2 hg2 hadd hob3 c3 hown
  go_wp2_with fail
  go_region_law (first | (refine step_app rfl _ _ _ _ rfl _ _ _ _ rfl rfl hr3.out ?_))
  all_goals
    go_wp2_with fail
    go_end0
    exact ⟨rfl, hfin2.out⟩

theorem below_pb (h : PB P w gb b) {w' : World} (hb : Below w.heap.size w w') : PB P w' gb b := by
  obtain ⟨v, mb, D, h⟩ := h; exact ⟨v, mb, D, h.below hb⟩
set_option maxHeartbeats 2000000 in
set_option maxRecDepth 100000 in
theorem learn_any (h : PB P w gb b) (d : Dl) (hid : In64 d.id) (hn : atL b.l d.id = none) (hlen : b.l.length ≤ 200) (hf : ∀ i, w.heap.size ≤ i → P i) :
    Calls Tryd.prog 47 #[.pointer (some ⟨gb, 0, none⟩), d.val] w fun e w' =>
      e = .returned (.int .i64 (if 200 ≤ b.l.length then 4 else 0)) ∧ PB P w' gb (if 200 ≤ b.l.length then b else { b with l := b.l ++ [⟨d, 1, 0, 0⟩] }) ∧ Kp P w w' := by
  have hb1 : ∀ o, Below w.heap.size w (w.alloc o) := fun o => (Below.refl _ _).alloc (Nat.le_refl _) _
  have h1 := fun o => below_pb h (hb1 o)
  have hadd := fun o => add_any (h1 o) ⟨d, 1, 0, 0⟩ hid hn (by omega) fun i hi => hf i (by have := (hb1 o).size; omega)
  unfold En.val at hadd
  obtain ⟨v, mb, D, h⟩ := h
  obtain ⟨p, cap, rfl, -, -, -⟩ := orow_shape h.row
  have c2 : w.cell? ⟨gb, 2, none⟩ = some (.slice p b.l.length cap) := obj_cell h.obj rfl
  have hgl := h.lt
  replace h1 := Lib.hid h1
  replace hb1 := Lib.hid hb1
  replace hadd := Lib.hid hadd
  clear h
  unfold Dl.val
  by_cases h2 : 200 ≤ b.l.length
  · rw [if_pos h2, if_pos h2]
    have q : (200 : Int) ≤ (b.l.length : Int) := by omega
    clear h2 hlen
    go_enter Tryd.func47, Tryd.ntmps47
    go_wp2_with fail
    go_ret
    exact ⟨rfl, h1.out _, Kp.of_below (hb1.out _)⟩
  · rw [if_neg h2, if_neg h2]
    have q : ¬ (200 : Int) ≤ (b.l.length : Int) := by omega
    clear h2 hlen
    go_enter Tryd.func47, Tryd.ntmps47
    go_wp2_with (go_at_call 40; (with_reducible refine (hadd.out _).mono ?_); rintro e w1 ⟨rfl, hP, hK⟩)
    go_ret
    exact ⟨rfl, hP, (Kp.of_below (hb1.out _)).trans hK⟩
end
end Go.Proofs.YtflbggehgjllcaaDoor
