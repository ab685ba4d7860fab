/- The contract of Remove. -/
import Derived.Test.YtflbggehgjllcaaDoorDJ
namespace Go.Proofs.YtflbggehgjllcaaDoor
open Go.RowKit Go.Maps
set_option linter.unusedVariables false

/-- the first k entries are gone through -/
def remK (l : List En) (m : Int) (k : Nat) : List En := (l.take k).map (·.rem m) ++ l.drop k
theorem remK_zero (l : List En) (m : Int) : remK l m 0 = l := by unfold remK; simp
theorem remK_all (l : List En) (m : Int) : remK l m l.length = l.map (·.rem m) := by unfold remK; simp
theorem remK_len (l : List En) (m : Int) (k : Nat) : (remK l m k).length = l.length := by unfold remK; simp; omega
theorem remK_get {l : List En} {m : Int} {k : Nat} (h : k < l.length) (h2 : k < (remK l m k).length) : (remK l m k)[k] = l[k] := by
  have e : (remK l m k)[k]? = some l[k] := by
    unfold remK
    rw [List.getElem?_append_right (by simp; omega)]
    simp [Nat.min_eq_left (Nat.le_of_lt h), List.getElem?_drop]
  rw [List.getElem?_eq_getElem h2] at e
  injection e
theorem remK_step {l : List En} {m : Int} {k : Nat} (h : k < l.length) : (remK l m k).set k (l[k].rem m) = remK l m (k + 1) := by
  unfold remK
  rw [List.set_append_right _ _ (by simp; omega), List.take_succ_eq_append_getElem h, List.map_append]
  have e : k - ((l.take k).map (·.rem m)).length = 0 := by simp; omega
  rw [e, List.drop_eq_getElem_cons h, List.set_cons_zero]
  simp
theorem remK_stay {l : List En} {m : Int} {k : Nat} (h : k < l.length) (hh : l[k].hit m = false) : remK l m (k + 1) = remK l m k := by
  rw [← remK_step h]
  have e : l[k].rem m = l[k] := by unfold En.rem; rw [hh]; rfl
  rw [e, ← remK_get (m := m) h (by rw [remK_len]; exact h)]
  exact List.set_getElem_self _
def hitK (l : List En) (m : Int) (k : Nat) : List Int := ((l.take k).filter (·.hit m)).map (·.d.id)
theorem hitK_yes {l : List En} {m : Int} {k : Nat} (h : k < l.length) (hh : l[k].hit m = true) : hitK l m (k + 1) = hitK l m k ++ [l[k].d.id] := by
  unfold hitK; rw [List.take_succ_eq_append_getElem h, List.filter_append, List.map_append]; simp [hh]
theorem hitK_no {l : List En} {m : Int} {k : Nat} (h : k < l.length) (hh : l[k].hit m = false) : hitK l m (k + 1) = hitK l m k := by
  unfold hitK; rw [List.take_succ_eq_append_getElem h, List.filter_append, List.map_append]; simp [hh]
theorem hitK_le (l : List En) (m : Int) (k : Nat) : (hitK l m k).length ≤ l.length := by
  unfold hitK; rw [List.length_map]; have := List.length_filter_le (·.hit m) (l.take k); have h2 := List.length_take_le k l; have : (l.take k).length ≤ l.length := by rw [List.length_take]; omega
  omega
/-- a row of ints and a book, behind k entries -/
structure RS (P : Nat → Prop) (w : World) (gb : Nat) (b : Bk) (v : Value) (mb : Nat) (D : DataW Value) (m : Int) (k : Nat) (u : Value) (wr : World) : Prop where
  pb : PBv P wr gb { b with l := remK b.l m k } v mb D
  row : IRow wr u (hitK b.l m k)
  own : ∀ g, u.ownBlock = some g → w.heap.size ≤ g
  kp : Kp P w wr
theorem irow_app {w : World} {v : Value} {zs : List Int} {x : Int} (h : w.ownsRow 0 3 1 v (zs.length + 1) (zs.map (Value.int .i64) ++ [.int .i64 x])) : IRow w v (zs ++ [x]) := by
  unfold IRow; rw [List.length_append, List.map_append]; exact h
theorem new_set (w : World) (a : Addr) (u : Value) (o : Obj) : ((w.setCell a u).alloc o).heap[w.heap.size]? = some o := by
  have := heap_alloc_new (w.setCell a u) o
  simpa using this
theorem En.hit_eq (x : En) (m : Int) : x.hit m = (x.open && (x.d.a == m || x.d.b == m)) := by
  unfold En.hit
  have e1 : decide (x.d.a = m) = (x.d.a == m) := by rw [Bool.eq_iff_iff]; simp
  have e2 : decide (x.d.b = m) = (x.d.b == m) := by rw [Bool.eq_iff_iff]; simp
  rw [e1, e2]
section
variable {P : Nat → Prop} {w : World} {gb : Nat} {b : Bk} {v : Value} {mb : Nat} {D : DataW Value}
set_option maxHeartbeats 4000000 in
set_option maxRecDepth 100000 in
theorem remove_any (h : PB P w gb b) (m : Int) (hlen : b.l.length ≤ 1000) (hf : ∀ i, w.heap.size ≤ i → P i) :
    Calls Tryd.prog 23 #[.pointer (some ⟨gb, 0, none⟩), .int .i64 m] w fun e w' => ∃ u, e = .returned u ∧ IRow w' u (b.rem m).1 ∧ (∀ g, u.ownBlock = some g → w.heap.size ≤ g) ∧ PB P w' gb (b.rem m).2 ∧ Kp P w w' := by
  obtain ⟨v, mb, D, h⟩ := h
  have h0 : RS P w gb b v mb D m 0 (.slice none 0 0) w := ⟨by rw [remK_zero]; exact h, World.ownsRow_nil _ _ _ _, (fun g hg => by simp [Value.ownBlock] at hg), Kp.refl _ _⟩
  have c2 : w.cell? ⟨gb, 2, none⟩ = some v := obj_cell h.obj rfl
  obtain ⟨p, cap, rfl, -, -, hps⟩ := orow_shape h.row
  have hgp : ∀ k, k < b.l.length → ∃ g, p = some ⟨g, 0, none⟩ := fun k hk => by
    obtain ⟨g, c1, cur, e1, _⟩ := orow_some h.row (by omega)
    injection e1 with e1 _ _
    exact ⟨g, e1⟩
  have hres : b.rem m = (hitK b.l m b.l.length, { b with l := remK b.l m b.l.length }) := by unfold Bk.rem hitK; rw [remK_all, List.take_length]
  rw [hres]
  clear hres hps
  obtain ⟨n, hn⟩ : ∃ n, n = b.l.length := ⟨_, rfl⟩
  have hn1 : n ≤ 1000 := by omega
  rw [← hn] at c2 h0 hgp ⊢
  replace h := Lib.hid h
  replace h0 := Lib.hid h0
  replace hn := Lib.hid hn
  replace hgp := Lib.hid hgp
  replace hf := Lib.hid hf
  go_enter Tryd.func23, Tryd.ntmps23
  go_wp2_with fail
  go_loopw [5, 13] (fun u i wr => ∃ k : Nat, k ≤ n ∧ i = .int .i64 (k : Int) ∧ Hid (RS P w gb b (.slice p n cap) mb D m k u wr)) (fun _ i _ => n - (intOf i).toNat)
  case atStart => exact ⟨0, by omega, rfl, h0⟩
  case round =>
    obtain ⟨k, hk, rfl, hS⟩ := hrel
    by_cases hkn : k < n
    · obtain ⟨g, rfl⟩ := hgp.out k hkn
      have hkb : k < b.l.length := by have := hn.out; omega
      have hkl : k < (remK b.l m k).length := by rw [remK_len]; exact hkb
      have hent := hS.out.pb.entry (i := k) hkl rfl
      have hg2 := remK_get (m := m) hkb hkl
      simp only [hg2] at hent
      obtain ⟨e0, e1, e2, e3, e4, e5, e6, e7, e8, e9⟩ := hent
      have f7 : wr.frozen? ⟨g, k * 10 + 7, none⟩ = false := orow_free hS.out.pb.row rfl _
      have hgl : g < wr.heap.size := (World.ownsRow.lt hS.out.pb.row g rfl).2
      have k2 : wr.cell? ⟨gb, 2, none⟩ = some (.slice (some ⟨g, 0, none⟩) n cap) := obj_cell hS.out.pb.obj rfl
      have hgbl := hS.out.pb.lt
      have co := fun w' => open_any b.l[k] w'
      have hhit := En.hit_eq b.l[k] m
      have hle : Hid ((hitK b.l m k).length ≤ 1000) := Lib.hid (by have := hitK_le b.l m k; omega)
      have hno : b.l[k].hit m = false → ∀ w1, Below wr.heap.size wr w1 → RS P w gb b (.slice (some ⟨g, 0, none⟩) n cap) mb D m (k + 1) u5 w1 := fun hh w1 hb => by
        have hs := hS.out
        refine ⟨?_, ?_, hs.own, hs.kp.trans (Kp.of_below hb)⟩
        · rw [remK_stay hkb hh]; exact hs.pb.below hb
        · rw [hitK_no hkb hh]; exact orow_kp hs.row (Kp.of_below (F := fun _ => False) hb) (fun _ _ h => h)
      have hyes : b.l[k].hit m = true → ∀ w1, Below wr.heap.size wr w1 → ∀ o, ((w1.setCell ⟨g, k * 10 + 7, none⟩ (.int .i64 4)).alloc o).ownsRow 0 3 1 u5 (hitK b.l m k).length ((hitK b.l m k).map (Value.int .i64)) ∧
          (∀ v' w', w'.ownsRow 0 3 1 v' ((hitK b.l m k).length + 1) ((hitK b.l m k).map (Value.int .i64) ++ [.int .i64 b.l[k].d.id]) → ((w1.setCell ⟨g, k * 10 + 7, none⟩ (.int .i64 4)).alloc o).grownBy w' u5.ownBlock → (∀ g', v'.ownBlock = some g' → u5.ownBlock = some g' ∨ w1.heap.size + 1 ≤ g') → RS P w gb b (.slice (some ⟨g, 0, none⟩) n cap) mb D m (k + 1) v' w') := fun hh w1 hb o => by
        have hs := hS.out
        have hx : b.l[k].rem m = { b.l[k] with st := 4 } := by unfold En.rem; rw [hh]; rfl
        have p1 := hs.pb.below hb
        have p2 := p1.put (g := g) (i := k) rfl hkl 7 (.int .i64 4) { b.l[k] with st := 4 } (by omega) (by simp only [hg2]; rfl) (by simp only [hg2])
        have p3 : PBv P (w1.setCell ⟨g, k * 10 + 7, none⟩ (.int .i64 4)) gb { b with l := remK b.l m (k + 1) } (.slice (some ⟨g, 0, none⟩) n cap) mb D := by
          rw [← remK_step hkb, hx]; exact p2
        have r1 : IRow w1 u5 (hitK b.l m k) := orow_kp hs.row (Kp.of_below (F := fun _ => False) hb) (fun _ _ h => h)
        have r2 : IRow (w1.setCell ⟨g, k * 10 + 7, none⟩ (.int .i64 4)) u5 (hitK b.l m k) := orow_kept r1 fun g' hg' => obj_other _ fun e => (p1.irow_ne r1 hg').2.2 (by have e2 : g' = g := e; rw [e2]; rfl)
        have r3 : IRow ((w1.setCell ⟨g, k * 10 + 7, none⟩ (.int .i64 4)).alloc o) u5 (hitK b.l m k) := orow_kept r2 fun g' hg' => Below.heap_alloc _ _ _ (World.ownsRow.lt r2 g' hg').2
        have p4 : PBv P ((w1.setCell ⟨g, k * 10 + 7, none⟩ (.int .i64 4)).alloc o) gb { b with l := remK b.l m (k + 1) } (.slice (some ⟨g, 0, none⟩) n cap) mb D := p3.below ((Below.refl _ _).alloc (Nat.le_refl _) _)
        refine ⟨r3, fun v' w' h1 h2 h3 => ⟨p4.grown r3 h2, by rw [hitK_yes hkb hh]; exact irow_app h1, fun g' hg' => ?_, ?_⟩⟩
        · rcases h3 g' hg' with h4 | h4
          · exact hs.own g' h4
          · have h5 := hs.kp.size
            have h6 := hb.size
            omega
        · exact (((hs.kp.trans (Kp.of_below hb)).setCell (.inl (hs.pb.pv g rfl)) _).alloc o).grown h2 fun k' hk' => .inl (hf.out k' (hs.own k' hk'))
      have hnew1 : ∀ (w1 : World) (o : Obj), True := fun _ _ => trivial
      clear hnew1
      generalize b.l[k] = x at *
      have hnew1 : ∀ (j : Nat) (u : Value), [Value.int .i64 x.d.id][j]? = some u → ∀ (w1 : World) (a : Addr) (y : Value), ((w1.setCell a y).alloc (.cells #[.int .i64 x.d.id] 3)).cell? ((⟨w1.heap.size, 0, none⟩ : Addr).add j) = some u := fun j u hu w1 a y => by
        match j with
        | 0 => injection hu with hu; rw [← hu]; exact obj_cell (new_set w1 a y _) rfl
        | j + 1 => simp at hu
      clear hg2
      unfold En.val at co
      replace hnew1 := Lib.hid hnew1
      rcases ho : x.open with _ | _
      · rw [ho] at co hhit
        have hno := Lib.hid (hno hhit)
        clear hyes
        clear hhit ho
        go_wp2_with (go_at_call 50; (with_reducible refine (co _).mono ?_); rintro e w1 ⟨rfl, hb⟩; obtain ⟨hc, hf1⟩ := bcellD hb)
        go_roundw
        case rel => exact ⟨k + 1, by omega, by go_num, Lib.hid (hno.out w1 hb)⟩
        case measure => simp [intOf]; omega
      · rw [ho] at co
        rcases q1 : (x.d.a == m) with _ | _
        · rcases q2 : (x.d.b == m) with _ | _
          · rw [ho, q1, q2] at hhit
            have hno := Lib.hid (hno hhit)
            clear hyes
            clear hhit ho
            go_wp2_with (go_at_call 50; (with_reducible refine (co _).mono ?_); rintro e w1 ⟨rfl, hb⟩; obtain ⟨hc, hf1⟩ := bcellD hb)
            go_roundw
            case rel => exact ⟨k + 1, by omega, by go_num, Lib.hid (hno.out w1 hb)⟩
            case measure => simp [intOf]; omega
          · rw [ho, q1, q2] at hhit
            have hyes := Lib.hid (hyes hhit)
            clear hno
            clear hhit ho
            go_wp2_with (first | (go_at_call 50; (with_reducible refine (co _).mono ?_); rintro e w1 ⟨rfl, hb⟩; obtain ⟨hc, hf1⟩ := bcellD hb; have hgl1 : g < w1.heap.size := Nat.lt_of_lt_of_le hgl hb.size) | (at_builtin; refine wpList_app1 38 3 1 8 _ Tryd.underlying38 info3 (by rfl) (by omega) (by omega) rfl _ _ rfl rfl _ _ _ rfl (hyes.out w1 hb _).1 ⟨w1.heap.size, 0, none⟩ [.int .i64 x.d.id] rfl rfl (fun j u hu => hnew1.out j u hu _ _ _) (fun u hu => by obtain rfl := List.mem_singleton.1 hu; rfl) (by have := hle.out; omega) ?_))
            intro v' w' hr' hg' hv'
            go_wp2_with fail
            go_roundw
            case rel => exact ⟨k + 1, by omega, by go_num, Lib.hid ((hyes.out w1 hb _).2 _ _ hr' hg' hv')⟩
            case measure => simp [intOf]; omega
        · rw [ho, q1] at hhit
          have hyes := Lib.hid (hyes hhit)
          clear hno
          clear hhit ho
          go_wp2_with (first | (go_at_call 50; (with_reducible refine (co _).mono ?_); rintro e w1 ⟨rfl, hb⟩; obtain ⟨hc, hf1⟩ := bcellD hb; have hgl1 : g < w1.heap.size := Nat.lt_of_lt_of_le hgl hb.size) | (at_builtin; refine wpList_app1 38 3 1 8 _ Tryd.underlying38 info3 (by rfl) (by omega) (by omega) rfl _ _ rfl rfl _ _ _ rfl (hyes.out w1 hb _).1 ⟨w1.heap.size, 0, none⟩ [.int .i64 x.d.id] rfl rfl (fun j u hu => hnew1.out j u hu _ _ _) (fun u hu => by obtain rfl := List.mem_singleton.1 hu; rfl) (by have := hle.out; omega) ?_))
          intro v' w' hr' hg' hv'
          go_wp2_with fail
          go_roundw
          case rel => exact ⟨k + 1, by omega, by go_num, Lib.hid ((hyes.out w1 hb _).2 _ _ hr' hg' hv')⟩
          case measure => simp [intOf]; omega
    · obtain rfl : k = n := by omega
      have hkz : ¬ (k : Int) < (k : Int) := by omega
      have hS2 := hS
      go_wp2_with fail
      go_ret
      exact ⟨_, rfl, hS2.out.row, hS2.out.own, ⟨_, _, _, hS2.out.pb⟩, hS2.out.kp⟩
end
end Go.Proofs.YtflbggehgjllcaaDoor
