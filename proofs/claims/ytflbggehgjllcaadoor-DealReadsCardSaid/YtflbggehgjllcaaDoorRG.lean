/- The contract of the reference's All. -/
import Derived.Test.YtflbggehgjllcaaDoorRE
import Derived.Test.YtflbggehgjllcaaDoorRP
namespace Go.Proofs.YtflbggehgjllcaaDoor
open Go.RowKit
set_option linter.unusedVariables false

theorem ZR.app {w wr : World} {u : Value} {zs : List Int} (h : ZR w wr u zs) (o : Obj) (x : Int) : (wr.alloc o).ownsRow 0 3 1 u zs.length (zs.map (Value.int .i64)) ∧
    ∀ v' w', w'.ownsRow 0 3 1 v' (zs.length + 1) (zs.map (Value.int .i64) ++ [.int .i64 x]) → (wr.alloc o).grownBy w' u.ownBlock → (∀ g', v'.ownBlock = some g' → u.ownBlock = some g' ∨ wr.heap.size + 1 ≤ g') → ZR w w' v' (zs ++ [x]) := by
  have hs : (wr.alloc o).heap.size = wr.heap.size + 1 := by simp
  have hz := h.bl.size
  refine ⟨orow_kept h.row fun g' hg' => Below.heap_alloc _ _ _ (World.ownsRow.lt h.row g' hg').2, fun v' w' h1 h2 h3 => ⟨irow_app h1, fun g' hg' => ?_, below_grown (h.bl.alloc h.bl.size o) h2 h.own (Nat.le_refl _)⟩⟩
  rcases h3 g' hg' with h4 | h4
  · exact h.own g' h4
  · omega
theorem one_cell {W : World} {a : Nat} {x : Int} (h : W.heap[a]? = some (.cells #[.int .i64 x] 3 (0, 0))) : ∀ (i : Nat) (u : Value), [Value.int .i64 x][i]? = some u → W.cell? ((⟨a, 0, none⟩ : Addr).add i) = some u := fun i u hu => by
  match i with
  | 0 => injection hu with hu; rw [← hu]; exact obj_cell h rfl
  | i + 1 => simp at hu
theorem ZR.nil (w : World) : ZR w (w.alloc (.cells #[] 3)) (.slice (some ⟨w.heap.size, 0, none⟩) 0 0) [] :=
  ⟨⟨rfl, .inr ⟨w.heap.size, 0, #[], rfl, Nat.zero_le _, heap_alloc_new w _, Nat.le_refl _, by unfold maxLen; omega, by simp, by simp⟩⟩, fun g hg => by simp [Value.ownBlock] at hg; omega, (Below.refl _ _).alloc (Nat.le_refl _) _⟩
def selS (l : List En) (p : En → Bool) (k : Nat) : List Int := ((l.take k).filter p).map (·.d.id)
theorem selS_yes {l : List En} {p : En → Bool} {k : Nat} (h : k < l.length) (hp : p l[k] = true) : selS l p (k + 1) = selS l p k ++ [l[k].d.id] := by
  unfold selS; rw [List.take_succ_eq_append_getElem h, List.filter_append, List.map_append]; simp [hp]
theorem selS_no {l : List En} {p : En → Bool} {k : Nat} (h : k < l.length) (hp : p l[k] = false) : selS l p (k + 1) = selS l p k := by
  unfold selS; rw [List.take_succ_eq_append_getElem h, List.filter_append]; simp [hp]
theorem selS_le (l : List En) (p : En → Bool) (k : Nat) : (selS l p k).length ≤ l.length := by
  unfold selS; rw [List.length_map]; have := List.length_filter_le p (l.take k); have : (l.take k).length ≤ l.length := by rw [List.length_take]; omega
  omega
theorem selS_all (l : List En) (p : En → Bool) : selS l p l.length = (l.filter p).map (·.d.id) := by unfold selS; rw [List.take_length]
section
variable {P : Nat → Prop} {w : World} {rb : Nat} {b : Bk} {v : Value}
set_option maxHeartbeats 2000000 in
set_option maxRecDepth 100000 in
theorem rall_a (h : RB P w rb b) (st : Int) (hs2 : st ≠ 2) (hlen : b.l.length ≤ 1000) :
    Calls Tryd.prog 15 #[.pointer (some ⟨rb, 0, none⟩), .int .i64 st] w fun e w' => ∃ u, e = .returned u ∧ ZR w w' u (b.all st) := by
  obtain ⟨v, h⟩ := h
  have h0 := ZR.nil w
  obtain ⟨p, cap, rfl, -, -, -⟩ := orow_shape h.row
  have hgp : ∀ k, k < b.l.length → ∃ g, p = some ⟨g, 0, none⟩ := fun k hk => by
    obtain ⟨g, c1, cur, e1, _⟩ := orow_some h.row (by omega)
    injection e1 with e1 _ _
    exact ⟨g, e1⟩
  have hres : b.all st = selS b.l (fun e => decide (e.st = st)) b.l.length := by rw [selS_all]; unfold Bk.all; dsimp only; rw [if_neg hs2]
  obtain ⟨R, hR⟩ : ∃ R, R = b.all st := ⟨_, rfl⟩
  rw [← hR] at hres ⊢
  obtain ⟨n, hn⟩ : ∃ n, n = b.l.length := ⟨_, rfl⟩
  have hn1 : n ≤ 1000 := by omega
  rw [← hn] at hgp hres
  have q2 : (st == 2) = false := by simpa using hs2
  replace h := Lib.hid h
  replace h0 := Lib.hid h0
  replace hn := Lib.hid hn
  replace hgp := Lib.hid hgp
  replace hres := Lib.hid hres
  replace hR := Lib.hid hR
  replace hs2 := Lib.hid hs2
  go_enter Tryd.func15, Tryd.ntmps15
  go_wp2_with fail
  go_loopw [5, 8] (fun u i wr => ∃ k : Nat, k ≤ n ∧ i = .int .i64 (k : Int) ∧ Hid (ZR w wr u (selS b.l (fun e => decide (e.st = st)) k))) (fun _ i _ => n - (intOf i).toNat)
  case atStart => exact ⟨0, by omega, rfl, h0⟩
  case round =>
    obtain ⟨k, hk, rfl, hS⟩ := hrel
    have hpb := h.out.below hS.out.bl
    have c2 : wr.cell? ⟨rb, 2, none⟩ = some (.slice p n cap) := by rw [hn.out]; exact obj_cell hpb.obj rfl
    by_cases hkn : k < n
    · have hkz : (k : Int) < (n : Int) := by omega
      obtain ⟨g, rfl⟩ := hgp.out k hkn
      have hkb : k < b.l.length := by have := hn.out; omega
      obtain ⟨e0, -, -, -, -, -, -, e7, -⟩ := hpb.entry (i := k) hkb rfl
      have hle : Hid ((selS b.l (fun e => decide (e.st = st)) k).length ≤ 1000) := Lib.hid (by have := selS_le b.l (fun e => decide (e.st = st)) k; omega)
      by_cases hst : (b.l[k]).st = st
      · have hy := selS_yes (p := fun e => decide (e.st = st)) hkb (by simpa using hst)
        have hap := hS.out.app (.cells #[.int .i64 (b.l[k]).d.id] 3) (b.l[k]).d.id
        rw [← hy] at hap
        have hq : ((b.l[k]).st == st) = true := by simpa using hst
        generalize b.l[k] = x at e0 e7 hst hap hq
        have hone := one_cell (heap_alloc_new wr (.cells #[.int .i64 x.d.id] 3))
        replace hap := Lib.hid hap
        replace hone := Lib.hid hone
        replace hst := Lib.hid hst
        replace hpb := Lib.hid hpb
        clear hy
        go_wp2_with (at_builtin; refine wpList_app1 38 3 1 8 _ Tryd.underlying38 info3 (by rfl) (by omega) (by omega) rfl _ _ rfl rfl _ _ _ rfl hap.out.1 ⟨wr.heap.size, 0, none⟩ [.int .i64 x.d.id] rfl rfl hone.out (fun u hu => by obtain rfl := List.mem_singleton.1 hu; rfl) (by have := hle.out; omega) ?_)
        intro v' w' hr' hg' hv'
        go_wp2_with fail
        go_roundw
        case rel => exact ⟨k + 1, by omega, by go_num, Lib.hid (hap.out.2 _ _ hr' hg' hv')⟩
        case measure => simp [intOf]; omega
      · have hy := selS_no (p := fun e => decide (e.st = st)) hkb (by simpa using hst)
        have hq : ((b.l[k]).st == st) = false := by simpa using hst
        have hz := hS.out
        rw [← hy] at hz
        generalize b.l[k] = x at e0 e7 hst hq
        replace hz := Lib.hid hz
        replace hst := Lib.hid hst
        replace hpb := Lib.hid hpb
        clear hy
        go_wp2_with fail
        go_roundw
        case rel => exact ⟨k + 1, by omega, by go_num, hz⟩
        case measure => simp [intOf]; omega
    · obtain rfl : k = n := by omega
      have hkz : ¬ (k : Int) < (k : Int) := by omega
      replace hpb := Lib.hid hpb
      go_wp2_with fail
      go_ret
      exact ⟨_, rfl, by rw [hres.out]; exact hS.out⟩
end
end Go.Proofs.YtflbggehgjllcaaDoor
