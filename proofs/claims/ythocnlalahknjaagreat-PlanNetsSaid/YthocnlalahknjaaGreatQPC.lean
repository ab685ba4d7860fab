/- Of dues those of the first one's member and currency: the contract of ofFirst; payments; dues put in order. -/
import Derived.Test.YthocnlalahknjaaGreatQPB
namespace Go.Proofs.YthocnlalahknjaaGreat.Dd
open Go.RowKit Go.Maps Go.Shelf
set_option linter.unusedVariables false

theorem pred70 (d : Du) (B b off n cap : Nat) (w : World) (hB : w.cell? ⟨B, 0, none⟩ = some (.slice (some ⟨b, off, none⟩) n cap)) (hn : 0 < n) (hn2 : n ≤ 1000000)
    (hd : ∀ j u, d.cs[j]? = some u → w.cell? ⟨b, off + j, none⟩ = some u) (hlb : b < w.heap.size) (hlB : B < w.heap.size) :
    PredBelow Tryz.prog 70 #[.pointer (some ⟨B, 0, none⟩)] (fun x : Du => .agg x.cs.toArray) (fun e => !sameK d e) w := fun W x hb =>
  (other_any x d B b off n cap W ((hb.cell (p := ⟨B, 0, none⟩) hlB).trans hB) hn hn2 (fun j u hu => (hb.cell (p := ⟨b, off + j, none⟩) hlb).trans (hd j u hu)) (Nat.lt_of_lt_of_le hlb hb.size) (Nat.lt_of_lt_of_le hlB hb.size)).mono
    fun e w' h => ⟨h.1, hb.trans (h.2.mono hb.size)⟩

set_option maxHeartbeats 1000000 in
set_option maxRecDepth 100000 in
theorem ofFirst_any (b off cap : Nat) (d : Du) (r : List Du) (w : World) (hc : (d :: r).length ≤ cap) (hlt : b < w.heap.size) (hl : (d :: r).length ≤ 1000000)
    (hall : ∀ i (h : i < (d :: r).length) j u, (d :: r)[i].cs[j]? = some u → w.cell? ⟨b, off + i * 4 + j, none⟩ = some u) :
    Calls Tryz.prog 41 #[.slice (some ⟨b, off, none⟩) (d :: r).length cap] w fun e w' => e = .returned (.slice (some ⟨b, off, none⟩) (grpLen (d :: r)) cap) ∧ Below w.heap.size w w' := by
  have hk := take_while_idx (sameK d) (d :: r)
  have hkl := grpLen_le (d :: r)
  have hgk : grpLen (d :: r) = ((d :: r).takeWhile (sameK d)).length := rfl
  rw [← hgk] at hk
  have hbb : Below w.heap.size w (w.alloc (.cells #[.slice (some ⟨b, off, none⟩) (d :: r).length cap] 36)) := (Below.refl _ _).alloc (Nat.le_refl _) _
  have h0 := AnyQ.slices_IndexFunc Tryz.idxU 4 Tryz.isAgg39 Tryz.sizeOf39 Du.cs (fun _ => rfl) (fun e => !sameK d e) 70 #[.pointer (some ⟨w.heap.size, 0, none⟩)] eg70 b off (d :: r).length cap (d :: r) (w.alloc (.cells #[.slice (some ⟨b, off, none⟩) (d :: r).length cap] 36))
    (pred70 d w.heap.size b off (d :: r).length cap _ (obj_cell (heap_alloc_new w _) rfl) (by simp) hl (fun j u hu => by
      have := hall 0 (by simp) j u hu
      rw [Nat.zero_mul, Nat.add_zero] at this
      exact (hbb.cell (p := ⟨b, off + j, none⟩) hlt).trans this) (by simp; omega) (by simp)) (Nat.le_refl _) (by omega) (by simp; omega)
    (fun j hj i u hu => (hbb.cell (p := ⟨b, off + j * 4 + i, none⟩) hlt).trans (hall j hj i u (by rwa [getElem!_pos (d :: r) j hj] at hu)))
  rw [List.take_length] at h0
  change Calls Tryz.prog 69 _ _ _ at h0
  clear hall
  generalize Lib.idxBy (fun _ y => !sameK d y) (d :: r) default = ix at h0 hk
  generalize grpLen (d :: r) = k at *
  generalize (d :: r).length = n at *
  clear hgk
  replace h0 := Lib.hid h0
  by_cases hi : ix < 0
  · obtain rfl : k = n := hk.1 hi
    clear hk hkl
    go_enter Tryz.func41, Tryz.ntmps41
    go_wp2_with (go_at_call 69; (with_reducible refine h0.out.mono ?_); rintro e w1 ⟨rfl, hb1⟩; have c0 := (hb1.cell (p := ⟨w.heap.size, 0, none⟩) (by simp)).trans (obj_cell (heap_alloc_new w _) rfl); replace hb1 := Lib.hid hb1)
    go_ret
    exact ⟨rfl, hbb.trans (hb1.out.mono hbb.size)⟩
  · have hik : (k : Int) = ix := hk.2 (by omega)
    subst hik
    clear hk
    have z1 : (k : Int) ≤ (cap : Int) := by omega
    go_enter Tryz.func41, Tryz.ntmps41
    go_wp2_with (go_at_call 69; (with_reducible refine h0.out.mono ?_); rintro e w1 ⟨rfl, hb1⟩; have c0 := (hb1.cell (p := ⟨w.heap.size, 0, none⟩) (by simp)).trans (obj_cell (heap_alloc_new w _) rfl); replace hb1 := Lib.hid hb1)
    go_ret
    exact ⟨rfl, hbb.trans (hb1.out.mono hbb.size)⟩
end Go.Proofs.YthocnlalahknjaaGreat.Dd
