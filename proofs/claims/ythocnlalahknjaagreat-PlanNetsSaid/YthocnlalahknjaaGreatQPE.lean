/- The contract of upTo: the dues up to a tick, put in order. -/
import Derived.Test.YthocnlalahknjaaGreatQPD
namespace Go.Proofs.YthocnlalahknjaaGreat.Dd
open Go.RowKit Go.Maps Go.Sort
set_option linter.unusedVariables false

/-- the dues up to a tick -/
def ofNow (l : List Du) (now : Int) : List Du := l.filter fun d => decide (d.t ≤ now)
theorem ofNow_yes {l : List Du} {now : Int} {k : Nat} (h : k < l.length) (hh : l[k].t ≤ now) : ofNow (l.take (k + 1)) now = ofNow (l.take k) now ++ [l[k]] := by
  unfold ofNow; rw [List.take_succ_eq_append_getElem h, List.filter_append]; simp [hh]
theorem ofNow_no {l : List Du} {now : Int} {k : Nat} (h : k < l.length) (hh : ¬ l[k].t ≤ now) : ofNow (l.take (k + 1)) now = ofNow (l.take k) now := by
  unfold ofNow; rw [List.take_succ_eq_append_getElem h, List.filter_append]; simp [hh]
theorem ofNow_le (l : List Du) (now : Int) (k : Nat) : (ofNow (l.take k) now).length ≤ l.length := by
  unfold ofNow; have := List.length_filter_le (fun d : Du => decide (d.t ≤ now)) (l.take k); have : (l.take k).length ≤ l.length := by rw [List.length_take]; omega
  omega
theorem boxU {W : World} {g : Nat} (x : Du) (h : W.heap[g]? = some (.cells x.cs.toArray 39 (0, 0))) : ∀ (j : Nat) (u : Value), x.cs[j]? = some u → W.cell? ((⟨g, 0, none⟩ : Addr).add j) = some u := fun j u hu => by
  have e : (⟨g, 0, none⟩ : Addr).add j = ⟨g, j, none⟩ := by unfold Addr.add; split <;> simp_all
  rw [e]; exact obj_cell h (by simpa using hu)
theorem eg67 : ∀ args w, (callFunc 67 args).run Tryz.prog w = .ok (.enter 67 args) w := enters_of Tryz.func67 (by kernel_rfl) rfl
theorem eg36 : ∀ args w, (callFunc 36 args).run Tryz.prog w = .ok (.enter 36 args) w := enters_of Tryz.func36 (by kernel_rfl) rfl
theorem sortU_nil (fn : Nat) (w : World) (p : Option Addr) (cap : Nat) : Calls Tryz.prog 35 #[.slice p 0 cap, .func (.func fn) #[] #[]] w fun e w' => e = .returned (.tuple #[]) ∧ w' = w :=
  AnyF.slices_SortFunc_none Tryz.laysF35 p cap _ w
/-- a row of a call's own, put in order -/
theorem sortUR (fn : Nat) (f : Du → Du → Int) (hf : ∀ x y W, Calls Tryz.prog fn #[.agg x.cs.toArray, .agg y.cs.toArray] W fun e w' => e = .returned (.int .i64 (f x y)) ∧ ∃ q os', w' = grow (W.drewN q) os') (hswo : SWO (ltOf f))
    (eg : ∀ args w, (callFunc fn args).run Tryz.prog w = .ok (.enter fn args) w) (w wr : World) (u : Value) (l : List Du) (h : UR w wr u l) (hlen : l.length ≤ 1000000) :
    Calls Tryz.prog 35 #[u, .func (.func fn) #[] #[]] wr fun e w' => e = .returned (.tuple #[]) ∧ ∃ L : List Du, L.Perm l ∧ InOrder f L ∧ USeq w' u L ∧ Below w.heap.size w w' := by
  obtain ⟨p, cap, rfl, hc, -, -⟩ := orow_shape h.row
  by_cases h0 : l.length = 0
  · have hl : l = [] := List.length_eq_zero_iff.1 h0
    subst hl
    refine (sortU_nil fn wr p cap).mono ?_
    rintro e w' ⟨he, rfl⟩
    exact ⟨he, [], List.Perm.refl _, List.Pairwise.nil, ⟨p, cap, rfl, Nat.zero_le _, .inl rfl⟩, h.bl⟩
  · obtain ⟨g, c1, cur, e1, _⟩ := orow_some h.row (by omega)
    injection e1 with e1 _ e2
    subst e1
    refine (sortU_any fn f hf hswo eg wr g cap l h.row w.heap.size (h.own g rfl) h.bl.size hlen).mono ?_
    rintro e w' ⟨he, L, h1, h2, h3, h4⟩
    exact ⟨he, L, h1, h2, h3, h.bl.trans h4⟩

set_option maxHeartbeats 4000000 in
set_option maxRecDepth 100000 in
theorem upTo_any (v : Value) (l : List Du) (now : Int) (w : World) (h : USeq w v l) (hlen : l.length ≤ 1000000) :
    Calls Tryz.prog 40 #[v, .int .i64 now] w fun e w' => ∃ u L, e = .returned u ∧ L.Perm (ofNow l now) ∧ InOrder byAcc L ∧ USeq w' u L ∧ Below w.heap.size w w' := by
  have h0 : UR w w (.slice none 0 0) (ofNow (l.take 0) now) := ⟨World.ownsRow_nil _ _ _ _, (fun g hg => by simp [Value.ownBlock] at hg), Below.refl _ _⟩
  obtain ⟨p, cap, rfl, hcap, hrd⟩ := h
  obtain ⟨n, hn⟩ : ∃ n, n = l.length := ⟨_, rfl⟩
  rw [← hn]
  have hn1 : n ≤ 1000000 := by omega
  replace hrd := Lib.hid hrd
  replace h0 := Lib.hid h0
  replace hn := Lib.hid hn
  clear hcap hlen
  go_enter Tryz.func40, Tryz.ntmps40
  go_wp2_with fail
  go_loopw [5, 10] (fun u i wr => ∃ k : Nat, k ≤ n ∧ i = .int .i64 (k : Int) ∧ Hid (UR w wr u (ofNow (l.take k) now))) (fun _ i _ => n - (intOf i).toNat)
  case atStart => exact ⟨0, by omega, rfl, h0⟩
  case round =>
    obtain ⟨k, hk, rfl, hS⟩ := hrel
    by_cases hkn : k < n
    · have hkl : k < l.length := by have := hn.out; omega
      obtain ⟨b, off, rfl, hlt, hall⟩ := hrd.out.resolve_left (by rintro rfl; simp at hkl)
      have hbl := hS.out.bl
      have e0 := (hbl.cell (p := ⟨b, off + k * 4 + 0, none⟩) hlt).trans (hall k hkl 0 _ rfl)
      have e1 := (hbl.cell (p := ⟨b, off + k * 4 + 1, none⟩) hlt).trans (hall k hkl 1 _ rfl)
      have e2 := (hbl.cell (p := ⟨b, off + k * 4 + 2, none⟩) hlt).trans (hall k hkl 2 _ rfl)
      have e3 := (hbl.cell (p := ⟨b, off + k * 4 + 3, none⟩) hlt).trans (hall k hkl 3 _ rfl)
      rw [Nat.add_zero] at e0
      have hgl : b < wr.heap.size := Nat.lt_of_lt_of_le hlt hbl.size
      have hle : Hid ((ofNow (l.take k) now).length ≤ 1000000) := Lib.hid (by have := ofNow_le l now k; have := hn.out; omega)
      have hbox : ∀ o, UR w (wr.alloc o) u5 (ofNow (l.take k) now) := fun o => ⟨orow_kept hS.out.row fun g' hg' => Below.heap_alloc _ _ _ (World.ownsRow.lt hS.out.row g' hg').2, hS.out.own, hS.out.bl.alloc hS.out.bl.size o⟩
      have hno : ¬ l[k].t ≤ now → ∀ o, UR w (wr.alloc o) u5 (ofNow (l.take (k + 1)) now) := fun hh o => by rw [ofNow_no hkl hh]; exact hbox o
      have hyes : l[k].t ≤ now → ∀ o o', ((wr.alloc o).alloc o').ownsRow 0 39 4 u5 (ofNow (l.take k) now).length (cellsU (ofNow (l.take k) now)) ∧
          (∀ v' w', w'.ownsRow 0 39 4 v' ((ofNow (l.take k) now).length + 1) (cellsU (ofNow (l.take k) now) ++ l[k].cs) → ((wr.alloc o).alloc o').grownBy w' u5.ownBlock → (∀ g', v'.ownBlock = some g' → u5.ownBlock = some g' ∨ wr.heap.size + 1 + 1 ≤ g') → UR w w' v' (ofNow (l.take (k + 1)) now)) := fun hh o o' => by
        have r1 := hbox o
        have r2 := orow_kept (w' := (wr.alloc o).alloc o') r1.row fun g' hg' => Below.heap_alloc _ _ _ (World.ownsRow.lt r1.row g' hg').2
        refine ⟨r2, fun v' w' h1 h2 h3 => ⟨?_, fun g' hg' => ?_, below_grown (r1.bl.alloc (by have := r1.bl.size; omega) o') h2 hS.out.own (Nat.le_refl _)⟩⟩
        · rw [ofNow_yes hkl hh, cellsU_app, List.length_append]; exact h1
        · rcases h3 g' hg' with h4 | h4
          · exact hS.out.own g' h4
          · have := hS.out.bl.size; omega
      have hsz := Lib.hid hS.out.bl.size
      clear hbl hall
      generalize l[k] = x at *
      have hnewC : ∀ (j : Nat) (u : Value), x.cs[j]? = some u → ((wr.alloc (.cells x.cs.toArray 39)).alloc (.cells x.cs.toArray 39)).cell? ((⟨wr.heap.size + 1, 0, none⟩ : Addr).add j) = some u := boxU x (new_two wr _ _)
      have h1c := x.cs_one
      replace hnewC := Lib.hid hnewC
      replace h1c := Lib.hid h1c
      by_cases hst : x.t ≤ now
      · have hyes := Lib.hid (hyes hst)
        clear hno hbox
        go_wp2_with (at_builtin; refine wpList_app1 36 39 4 32 _ Tryz.underlying36 info39 (by rfl) (by omega) (by omega) rfl _ _ rfl rfl _ _ _ rfl (hyes.out _ _).1 ⟨wr.heap.size + 1, 0, none⟩ x.cs rfl rfl hnewC.out h1c.out (by have := hle.out; omega) ?_)
        intro v' w' hr' hg' hv'
        go_wp2_with fail
        go_roundw
        case rel => exact ⟨k + 1, by omega, by go_num, Lib.hid ((hyes.out _ _).2 _ _ hr' hg' hv')⟩
        case measure => simp [intOf]; omega
      · have hno := Lib.hid (hno hst)
        clear hyes hbox
        go_wp2_with fail
        go_roundw
        case rel => exact ⟨k + 1, by omega, by go_num, Lib.hid (hno.out _)⟩
        case measure => simp [intOf]; omega
    · obtain rfl : k = n := by omega
      have hkz : ¬ (k : Int) < (k : Int) := by omega
      have hS2 : UR w wr u5 (ofNow l now) := by have h1 := hS.out; have h2 := hn.out; rw [h2, List.take_length] at h1; exact h1
      have hso := sortUR 67 byAcc (fun x y W => byAccount_any x y W) swoAcc eg67 w wr u5 _ hS2 (by have := ofNow_le l now l.length; rw [List.take_length] at this; have := hn.out; omega)
      clear hS2
      replace hS := True.intro
      replace hso := Lib.hid hso
      go_wp2_with (go_at_call 35; (with_reducible refine hso.out.mono ?_); rintro e w9 ⟨rfl, L, h1, h2, h3, h4⟩; replace h1 := Lib.hid h1; replace h2 := Lib.hid h2; replace h3 := Lib.hid h3; replace h4 := Lib.hid h4)
      go_ret
      exact ⟨_, L, rfl, h1.out, h2.out, h3.out, h4.out⟩
end Go.Proofs.YthocnlalahknjaaGreat.Dd
