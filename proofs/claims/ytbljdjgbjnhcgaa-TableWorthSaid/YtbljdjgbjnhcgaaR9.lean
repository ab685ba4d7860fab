/- Plain arithmetic of a product by digits; a row of the call's own that is written into. -/
import Derived.Test.YtbljdjgbjnhcgaaR4
import Derived.Laws.MakeOwn
namespace Go.Proofs.Ytbljdjgbjnhcgaa
open Go.RowKit
set_option linter.unusedVariables false

/-- a row of digits, whole, in a block of the call's own -/
def ORow (w : World) (g : Nat) (ds : List Int) : Prop := w.heap[g]? = some (.cells ((ds.map (Value.int .i64)).toArray) 3 (0, 0))
theorem ORow.lt {w : World} {g : Nat} {ds : List Int} (h : ORow w g ds) : g < w.heap.size := (Array.getElem?_eq_some_iff.1 h).1
theorem ORow.kept {w w' : World} {g : Nat} {ds : List Int} (h : ORow w g ds) (hb : Below w.heap.size w w') : ORow w' g ds := (hb.block g h.lt).trans h
theorem ORow.cell {w : World} {g i : Nat} {ds : List Int} (h : ORow w g ds) (hi : i < ds.length) : w.cell? ⟨g, i, none⟩ = some (.int .i64 (dg ds i)) := by
  rw [cell_of_row w g i _ 3 (0, 0) h]
  simp only [List.getElem?_toArray, List.getElem?_map]
  unfold dg
  rw [List.getD_eq_getElem?_getD, List.getElem?_eq_getElem hi]
  rfl
theorem ORow.free {w : World} {g i : Nat} {ds : List Int} (h : ORow w g ds) : w.frozen? ⟨g, i, none⟩ = false := by
  unfold ORow at h
  simp [World.frozen?, h]
theorem ORow.set {w : World} {g i : Nat} {ds : List Int} (h : ORow w g ds) (d : Int) : ORow (w.setCell ⟨g, i, none⟩ (.int .i64 d)) g (ds.set i d) := by
  unfold ORow at *
  simp [World.setCell, Array.getElem?_modify, h, List.map_set]
theorem ORow.other {w : World} {g : Nat} {ds : List Int} (h : ORow w g ds) {a : Addr} (hne : g ≠ a.block) (u : Value) : ORow (w.setCell a u) g ds := (Below.heap_setCell w a u g hne).trans h
theorem ORow.drow {w : World} {g : Nat} {ds : List Int} (h : ORow w g ds) (hd : Digs (dg ds)) : DRow w (some ⟨g, 0, none⟩) ds.length ds :=
  ⟨rfl, hd, .inr ⟨g, 0, rfl, h.lt, fun i hi => by rw [Nat.zero_add]; exact h.cell hi⟩⟩
theorem dg_set_eq {ds : List Int} {i : Nat} {d : Int} (hi : i < ds.length) : dg (ds.set i d) i = d := by
  unfold dg; rw [List.getD_eq_getElem?_getD, List.getElem?_set_self hi]; rfl
theorem dg_set_ne {ds : List Int} {i j : Nat} {d : Int} (h : j ≠ i) : dg (ds.set i d) j = dg ds j := by
  unfold dg; rw [List.getD_eq_getElem?_getD, List.getD_eq_getElem?_getD, List.getElem?_set_ne (by omega)]
theorem digs_set {ds : List Int} (h : Digs (dg ds)) {i : Nat} {d : Int} (d0 : 0 ≤ d) (d1 : d ≤ 9999) : Digs (dg (ds.set i d)) := by
  intro j
  by_cases hj : j = i
  · subst hj
    by_cases hl : j < ds.length
    · rw [dg_set_eq hl]; exact ⟨d0, d1⟩
    · rw [dg_out (by simp; omega)]; exact ⟨by decide, by decide⟩
  · rw [dg_set_ne hj]; exact h j
theorem val_set {ds : List Int} {i : Nat} (hi : i < ds.length) (d : Int) : val (ds.set i d) = val ds + (d - dg ds i) * pw i := by
  unfold val
  rw [List.length_set, dv_set hi (fun j hj => dg_set_ne hj), dg_set_eq hi]
theorem digs_zero (n : Nat) : Digs (dg (List.replicate n 0)) := by
  intro i
  have : dg (List.replicate n 0) i = 0 := by
    unfold dg
    rw [List.getD_eq_getElem?_getD, List.getElem?_replicate]
    split <;> rfl
  rw [this]; exact ⟨by decide, by decide⟩
theorem val_zero (n : Nat) : val (List.replicate n 0) = 0 := by
  unfold val
  rw [dv_congr (g := fun _ => 0) _ (fun i _ => by
    show dg (List.replicate n 0) i = 0
    unfold dg
    rw [List.getD_eq_getElem?_getD, List.getElem?_replicate]
    split <;> rfl)]
  generalize (List.replicate n (0 : Int)).length = m
  induction m with
  | zero => rfl
  | succ m ih => rw [dv, ih]; simp

/-- a product: i digits of the first are done, of the next one k of the other's -/
structure MulInv (f g : Nat → Int) (Vb : Int) (n i k : Nat) (c : Int) (os : List Int) : Prop where
  len : os.length = n
  digs : Digs (dg os)
  c0 : 0 ≤ c
  c1 : c ≤ 9999
  eq : val os + c * pw (i + k) = dv f i * Vb + f i * dv g k * pw i
theorem MulInv.sum {f g : Nat → Int} {Vb : Int} {n i k : Nat} {c : Int} {os : List Int} (h : MulInv f g Vb n i k c os) (hf : Digs f) (hg : Digs g) :
    0 ≤ f i * g k ∧ f i * g k ≤ 99980001 ∧ 0 ≤ c + dg os (i + k) + f i * g k ∧ c + dg os (i + k) + f i * g k ≤ 99999999 := by
  have a := hf i
  have b := hg k
  have x := h.digs (i + k)
  have c0 := h.c0
  have c1 := h.c1
  have m0 : 0 ≤ f i * g k := Int.mul_nonneg a.1 b.1
  have m1 : f i * g k ≤ 9999 * g k := Int.mul_le_mul_of_nonneg_right a.2 b.1
  omega
theorem MulInv.next {f g : Nat → Int} {Vb : Int} {n i k : Nat} {c : Int} {os : List Int} (h : MulInv f g Vb n i k c os) (hf : Digs f) (hg : Digs g) (hk : i + k < n) :
    MulInv f g Vb n i (k + 1) ((c + dg os (i + k) + f i * g k) / 10000) (os.set (i + k) ((c + dg os (i + k) + f i * g k) % 10000)) := by
  obtain ⟨s0, s1, s2, s3⟩ := h.sum hf hg
  refine ⟨by rw [List.length_set, h.len], digs_set h.digs (by omega) (by omega), by omega, by omega, ?_⟩
  rw [val_set (by rw [h.len]; exact hk), ← Nat.add_assoc, pw_succ, dv]
  have e := h.eq
  generalize ht : c + dg os (i + k) + f i * g k = t at *
  have e1 : t / 10000 * (10000 * pw (i + k)) + t % 10000 * pw (i + k) = t * pw (i + k) := by
    rw [Int.mul_left_comm, ← Int.mul_assoc, ← Int.add_mul, Int.add_comm, Int.emod_add_mul_ediv]
  have e2 : t * pw (i + k) = c * pw (i + k) + dg os (i + k) * pw (i + k) + f i * g k * pw (i + k) := by
    rw [← ht, Int.add_mul, Int.add_mul]
  have e3 : f i * (dv g k + g k * pw k) * pw i = f i * dv g k * pw i + f i * g k * pw (i + k) := by
    rw [Int.mul_add, Int.add_mul, pw_add, Int.mul_comm (pw i) (pw k)]
    simp only [Int.mul_assoc]
  rw [e3, Int.sub_mul]
  omega
theorem MulInv.first {f g : Nat → Int} {Vb : Int} {n i : Nat} {os : List Int} (hl : os.length = n) (hd : Digs (dg os)) (e : val os = dv f i * Vb) : MulInv f g Vb n i 0 0 os :=
  ⟨hl, hd, by omega, by omega, by rw [e]; simp [dv]⟩
theorem MulInv.last {f : Nat → Int} {db : List Int} {n i : Nat} {c : Int} {os : List Int} (h : MulInv f (dg db) (val db) n i (db.length + 1) c os) (hf : Digs f) (hb : Digs (dg db)) : val os = dv f (i + 1) * val db := by
  have e := h.eq
  rw [val_ext (by omega)] at e
  have e1 : dv f i * val db + f i * val db * pw i = dv f (i + 1) * val db := by
    rw [dv, Int.add_mul]
    congr 1
    rw [Int.mul_assoc, Int.mul_comm (val db), ← Int.mul_assoc]
  rw [e1] at e
  have a := dv_bd hf (i + 1)
  have b := val_bd hb
  have o := (val_bd h.digs).1
  have p1 : dv f (i + 1) * val db ≤ dv f (i + 1) * pw db.length := Int.mul_le_mul_of_nonneg_left (by omega) a.1
  have p2 : dv f (i + 1) * pw db.length < pw (i + 1) * pw db.length := Int.mul_lt_mul_of_pos_right a.2 (by have := pw_pos db.length; omega)
  rw [← pw_add] at p2
  rw [show i + (db.length + 1) = i + 1 + db.length from by omega] at e
  have c0 := h.c0
  rcases Int.lt_or_le 0 c with hc | hc
  · have : 1 * pw (i + 1 + db.length) ≤ c * pw (i + 1 + db.length) := Int.mul_le_mul_of_nonneg_right (by omega) (by have := pw_pos (i + 1 + db.length); omega)
    omega
  · obtain rfl : c = 0 := by omega
    omega
end Go.Proofs.Ytbljdjgbjnhcgaa
