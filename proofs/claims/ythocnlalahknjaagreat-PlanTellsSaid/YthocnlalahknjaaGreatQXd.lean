/- Plain arithmetic of a product by digits; a row of the call's own that is written into.
  The contract of the reference's Mul.
  The contracts of the reference's trim and Add, with where the digits lie. -/
import Derived.Test.YthocnlalahknjaaGreatQXa
import Derived.Laws.MakeOwn
import Derived.Test.YthocnlalahknjaaGreatQR5
namespace Go.Proofs.YthocnlalahknjaaGreat
open Go.RowKit
set_option linter.unusedVariables false

/-- a row of digits, whole, in a block of the call's own -/
def ORow (w : World) (g : Nat) (ds : List Int) : Prop := w.heap[g]? = some (.cells ((ds.map (Value.int .i64)).toArray) 3 (0, 0))
theorem ORow.lt {w : World} {g : Nat} {ds : List Int} (h : ORow w g ds) : g < w.heap.size := (Array.getElem?_eq_some_iff.1 h).1
theorem ORow.kept {w w' : World} {g : Nat} {ds : List Int} (h : ORow w g ds) (hb : Below w.heap.size w w') : ORow w' g ds := (hb.block g h.lt).trans h
theorem ORow.cell {w : World} {g i : Nat} {ds : List Int} (h : ORow w g ds) (hi : i < ds.length) : w.cell? ⟨g, i, none⟩ = some (.int .i64 (dg ds i)) := by
  rw [cell_of_row w g i _ 3 (0, 0) h]
  simp only [List.getElem?_toArray, List.getElem?_map]
  unfold dg
  rw [List.getD_eq_getElem?_getD, List.getElem?_eq_getElem hi]
  rfl
theorem ORow.free {w : World} {g i : Nat} {ds : List Int} (h : ORow w g ds) : w.frozen? ⟨g, i, none⟩ = false := by
  unfold ORow at h
  simp [World.frozen?, h]
theorem ORow.set {w : World} {g i : Nat} {ds : List Int} (h : ORow w g ds) (d : Int) : ORow (w.setCell ⟨g, i, none⟩ (.int .i64 d)) g (ds.set i d) := by
  unfold ORow at *
  simp [World.setCell, Array.getElem?_modify, h, List.map_set]
theorem ORow.other {w : World} {g : Nat} {ds : List Int} (h : ORow w g ds) {a : Addr} (hne : g ≠ a.block) (u : Value) : ORow (w.setCell a u) g ds := (Below.heap_setCell w a u g hne).trans h
theorem ORow.drow {w : World} {g : Nat} {ds : List Int} (h : ORow w g ds) (hd : Digs (dg ds)) : DRow w (some ⟨g, 0, none⟩) ds.length ds :=
  ⟨rfl, hd, .inr ⟨g, 0, rfl, ⟨_, _, h⟩, fun i hi => by rw [Nat.zero_add]; exact h.cell hi⟩⟩
theorem dg_set_eq {ds : List Int} {i : Nat} {d : Int} (hi : i < ds.length) : dg (ds.set i d) i = d := by
  unfold dg; rw [List.getD_eq_getElem?_getD, List.getElem?_set_self hi]; rfl
theorem dg_set_ne {ds : List Int} {i j : Nat} {d : Int} (h : j ≠ i) : dg (ds.set i d) j = dg ds j := by
  unfold dg; rw [List.getD_eq_getElem?_getD, List.getD_eq_getElem?_getD, List.getElem?_set_ne (by omega)]
theorem digs_set {ds : List Int} (h : Digs (dg ds)) {i : Nat} {d : Int} (d0 : 0 ≤ d) (d1 : d ≤ 9999) : Digs (dg (ds.set i d)) := by
  intro j
  by_cases hj : j = i
  · subst hj
    by_cases hl : j < ds.length
    · rw [dg_set_eq hl]; exact ⟨d0, d1⟩
    · rw [dg_out (by simp; omega)]; exact ⟨by decide, by decide⟩
  · rw [dg_set_ne hj]; exact h j
theorem val_set {ds : List Int} {i : Nat} (hi : i < ds.length) (d : Int) : val (ds.set i d) = val ds + (d - dg ds i) * pw i := by
  unfold val
  rw [List.length_set, dv_set hi (fun j hj => dg_set_ne hj), dg_set_eq hi]
theorem digs_zero (n : Nat) : Digs (dg (List.replicate n 0)) := by
  intro i
  have : dg (List.replicate n 0) i = 0 := by
    unfold dg
    rw [List.getD_eq_getElem?_getD, List.getElem?_replicate]
    split <;> rfl
  rw [this]; exact ⟨by decide, by decide⟩
theorem val_zero (n : Nat) : val (List.replicate n 0) = 0 := by
  unfold val
  rw [dv_congr (g := fun _ => 0) _ (fun i _ => by
    show dg (List.replicate n 0) i = 0
    unfold dg
    rw [List.getD_eq_getElem?_getD, List.getElem?_replicate]
    split <;> rfl)]
  generalize (List.replicate n (0 : Int)).length = m
  induction m with
  | zero => rfl
  | succ m ih => rw [dv, ih]; simp

/-- a product: i digits of the first are done, of the next one k of the other's -/
structure MulInv (f g : Nat → Int) (Vb : Int) (n i k : Nat) (c : Int) (os : List Int) : Prop where
  len : os.length = n
  digs : Digs (dg os)
  c0 : 0 ≤ c
  c1 : c ≤ 9999
  eq : val os + c * pw (i + k) = dv f i * Vb + f i * dv g k * pw i
theorem MulInv.sum {f g : Nat → Int} {Vb : Int} {n i k : Nat} {c : Int} {os : List Int} (h : MulInv f g Vb n i k c os) (hf : Digs f) (hg : Digs g) :
    0 ≤ f i * g k ∧ f i * g k ≤ 99980001 ∧ 0 ≤ c + dg os (i + k) + f i * g k ∧ c + dg os (i + k) + f i * g k ≤ 99999999 := by
  have a := hf i
  have b := hg k
  have x := h.digs (i + k)
  have c0 := h.c0
  have c1 := h.c1
  have m0 : 0 ≤ f i * g k := Int.mul_nonneg a.1 b.1
  have m1 : f i * g k ≤ 9999 * g k := Int.mul_le_mul_of_nonneg_right a.2 b.1
  omega
theorem MulInv.next {f g : Nat → Int} {Vb : Int} {n i k : Nat} {c : Int} {os : List Int} (h : MulInv f g Vb n i k c os) (hf : Digs f) (hg : Digs g) (hk : i + k < n) :
    MulInv f g Vb n i (k + 1) ((c + dg os (i + k) + f i * g k) / 10000) (os.set (i + k) ((c + dg os (i + k) + f i * g k) % 10000)) := by
  obtain ⟨s0, s1, s2, s3⟩ := h.sum hf hg
  refine ⟨by rw [List.length_set, h.len], digs_set h.digs (by omega) (by omega), by omega, by omega, ?_⟩
  rw [val_set (by rw [h.len]; exact hk), ← Nat.add_assoc, pw_succ, dv]
  have e := h.eq
  generalize ht : c + dg os (i + k) + f i * g k = t at *
  have e1 : t / 10000 * (10000 * pw (i + k)) + t % 10000 * pw (i + k) = t * pw (i + k) := by
    rw [Int.mul_left_comm, ← Int.mul_assoc, ← Int.add_mul, Int.add_comm, Int.emod_add_mul_ediv]
  have e2 : t * pw (i + k) = c * pw (i + k) + dg os (i + k) * pw (i + k) + f i * g k * pw (i + k) := by
    rw [← ht, Int.add_mul, Int.add_mul]
  have e3 : f i * (dv g k + g k * pw k) * pw i = f i * dv g k * pw i + f i * g k * pw (i + k) := by
    rw [Int.mul_add, Int.add_mul, pw_add, Int.mul_comm (pw i) (pw k)]
    simp only [Int.mul_assoc]
  rw [e3, Int.sub_mul]
  omega
theorem MulInv.first {f g : Nat → Int} {Vb : Int} {n i : Nat} {os : List Int} (hl : os.length = n) (hd : Digs (dg os)) (e : val os = dv f i * Vb) : MulInv f g Vb n i 0 0 os :=
  ⟨hl, hd, by omega, by omega, by rw [e]; simp [dv]⟩
theorem MulInv.last {f : Nat → Int} {db : List Int} {n i : Nat} {c : Int} {os : List Int} (h : MulInv f (dg db) (val db) n i (db.length + 1) c os) (hf : Digs f) (hb : Digs (dg db)) : val os = dv f (i + 1) * val db := by
  have e := h.eq
  rw [val_ext (by omega)] at e
  have e1 : dv f i * val db + f i * val db * pw i = dv f (i + 1) * val db := by
    rw [dv, Int.add_mul]
    congr 1
    rw [Int.mul_assoc, Int.mul_comm (val db), ← Int.mul_assoc]
  rw [e1] at e
  have a := dv_bd hf (i + 1)
  have b := val_bd hb
  have o := (val_bd h.digs).1
  have p1 : dv f (i + 1) * val db ≤ dv f (i + 1) * pw db.length := Int.mul_le_mul_of_nonneg_left (by omega) a.1
  have p2 : dv f (i + 1) * pw db.length < pw (i + 1) * pw db.length := Int.mul_lt_mul_of_pos_right a.2 (by have := pw_pos db.length; omega)
  rw [← pw_add] at p2
  rw [show i + (db.length + 1) = i + 1 + db.length from by omega] at e
  have c0 := h.c0
  rcases Int.lt_or_le 0 c with hc | hc
  · have : 1 * pw (i + 1 + db.length) ≤ c * pw (i + 1 + db.length) := Int.mul_le_mul_of_nonneg_right (by omega) (by have := pw_pos (i + 1 + db.length); omega)
    omega
  · obtain rfl : c = 0 := by omega
    omega
end Go.Proofs.YthocnlalahknjaaGreat
namespace Go.Proofs.YthocnlalahknjaaGreat
open Go.RowKit
set_option linter.unusedVariables false

theorem made_zero (n : Nat) : madeCells #[Value.int .i64 0] n = ((List.replicate n (0 : Int)).map (Value.int .i64)).toArray := by
  apply Array.ext
  · simp [size_madeCells]
  · intro i h1 h2
    simp [madeCells, Nat.mod_one]
/-- n cells that hold 0 -/
def zrow (n : Nat) : Array Value := ((List.replicate n (0 : Int)).map (Value.int .i64)).toArray
theorem make_ints (n : Nat) (hn : n ≤ 1000000) (w : World) : (Instr.makeSlice 35 (.int .i64 (n : Int)) (.int .i64 (n : Int))).run Tryz.prog w = .ok (.slice (some ⟨w.heap.size, 0, none⟩) n n) (w.alloc (.cells (zrow n) 3)) := by
  obtain ⟨i0, hi, hz0, hz1, hz2⟩ := info_parts Tryz.info3
  have hb : (i0.bytes : Int) * (n : Int) ≤ 281474976710656 := by rw [hz2]; omega
  have hr := run_make (P := Tryz.prog) w 35 3 i0 (.int .i64 0) Tryz.underlying35 hi hz0 .i64 .i64 n n (by omega) (by omega) hb (by omega)
  simp only [Int.toNat_natCast, hz1, Nat.mul_one] at hr
  rw [hr, zrow, ← made_zero]
  rfl
theorem ORow.made (X : World) (n : Nat) : ORow (X.alloc (.cells (zrow n) 3)) X.heap.size (List.replicate n 0) := heap_alloc_new X _

/-- what a product's call holds: its two Bigs, what it makes in block o, its row in block g, the result's block -/
structure MulSt (w W : World) (na nb : Bool) (pa pb : Option Addr) (la lb ca cb : Nat) (da db : List Int) (ng : Bool) (o g : Nat) (os : List Int) : Prop where
  hold : Hold w W na nb pa pb la lb ca cb da db
  c0 : W.cell? ⟨o, 0, none⟩ = some (.bool ng)
  c1 : W.cell? ⟨o, 1, none⟩ = some (.slice (some ⟨g, 0, none⟩) os.length os.length)
  lto : o < W.heap.size
  row : ORow W g os
  box : Box W (w.heap.size + 1 + 1)
  o2 : w.heap.size + 1 + 1 < o
  g2 : w.heap.size + 1 + 1 < g
  ne : o ≠ g
section
variable {w W W' : World} {na nb : Bool} {pa pb : Option Addr} {la lb ca cb : Nat} {da db : List Int} {ng : Bool} {o g : Nat} {os : List Int}
theorem MulSt.kept (h : MulSt w W na nb pa pb la lb ca cb da db ng o g os) (hb : Below W.heap.size W W') : MulSt w W' na nb pa pb la lb ca cb da db ng o g os :=
  ⟨h.hold.kept hb, (hb.cell (p := ⟨o, 0, none⟩) h.lto).trans h.c0, (hb.cell (p := ⟨o, 1, none⟩) h.lto).trans h.c1, Nat.lt_of_lt_of_le h.lto hb.size, h.row.kept hb, h.box.kept hb (by have := h.o2; have := h.lto; omega), h.o2, h.g2, h.ne⟩
theorem MulSt.drew (h : MulSt w W na nb pa pb la lb ca cb da db ng o g os) : MulSt w W.drew na nb pa pb la lb ca cb da db ng o g os := ⟨h.hold.drew, h.c0, h.c1, h.lto, h.row, h.box, h.o2, h.g2, h.ne⟩
theorem MulSt.set (h : MulSt w W na nb pa pb la lb ca cb da db ng o g os) (i : Nat) (d : Int) : MulSt w (W.setCell ⟨g, i, none⟩ (.int .i64 d)) na nb pa pb la lb ca cb da db ng o g (os.set i d) := by
  have h2 := h.g2
  have h3 := h.ne
  have hb : Below (w.heap.size + 1 + 1 + 1) W (W.setCell ⟨g, i, none⟩ (.int .i64 d)) := (Below.refl _ _).setCell (by simp; omega) _
  have e := World.cell?_of_block (w := W) (w' := W.setCell ⟨g, i, none⟩ (.int .i64 d)) (a := ⟨o, 0, none⟩) (Below.heap_setCell W ⟨g, i, none⟩ (.int .i64 d) o h3)
  have e' := World.cell?_of_block (w := W) (w' := W.setCell ⟨g, i, none⟩ (.int .i64 d)) (a := ⟨o, 1, none⟩) (Below.heap_setCell W ⟨g, i, none⟩ (.int .i64 d) o h3)
  exact ⟨h.hold.keptTo hb (by omega), e.trans h.c0, by rw [List.length_set]; exact e'.trans h.c1, by simpa [World.setCell] using h.lto, h.row.set d, h.box.kept hb (by omega), h.o2, h.g2, h.ne⟩
end

set_option maxRecDepth 100000 in
set_option maxHeartbeats 4000000 in
theorem mul_walk (na nb ng : Bool) (pa pb : Option Addr) (la lb ca cb n : Nat) (da db : List Int) (w : World) (ha : DRow w pa la da) (hb : DRow w pb lb db) (hla : la ≤ 1000) (hlb : lb ≤ 1000)
    (hng : Hid ((!(na == nb)) = ng)) (hn : Hid (n = la + lb + 1)) :
    Calls Tryz.prog 94 #[.agg #[.bool na, .slice pa la ca], .agg #[.bool nb, .slice pb lb cb]] w (RetB w n (sgB ng (val da * val db))) := by
  have fa := Lib.hid ha.2.1
  have fb := Lib.hid hb.2.1
  have la' := Lib.hid ha.1
  have lb' := Lib.hid hb.1
  have hH0 := Lib.hid (Hold.made (na := na) (nb := nb) (ca := ca) (cb := cb) ha hb)
  clear ha hb
  have hmk := make_ints (la + lb + 1) (by omega)
  have hcast : (((la + lb + 1 : Nat)) : Int) = (la : Int) + (lb : Int) + 1 := by omega
  rw [hcast] at hmk
  clear hcast
  go_enter Tryz.func94, Tryz.ntmps94
  go_upto_region 1 with (fail)
  go_cut [5] (fun s wc => ∃ o g : Nat, s = .pointer (some ⟨o, 0, none⟩) ∧ MulSt w wc na nb pa pb la lb ca cb da db ng o g (List.replicate n 0))
  case first =>
    have hbox := Box.made ((w.alloc (Obj.cells #[Value.bool na, Value.slice pa la ca] 79)).alloc (Obj.cells #[Value.bool nb, Value.slice pb lb cb] 79)) false none 0 0
    simp only [World.size_alloc] at hbox
    replace hbox := Lib.hid hbox
    have hn2 : la + lb + 1 = n := hn.out.symm
    rw [hn2] at hmk
    replace hn2 := Lib.hid hn2
    go_region
    all_goals
      rw [hng.out]
      go_wp2_with fail
      go_meet
    · have hB1 := (((Below.refl (w.heap.size + 1 + 1) ((w.alloc (Obj.cells #[Value.bool na, Value.slice pa la ca] 79)).alloc (Obj.cells #[Value.bool nb, Value.slice pb lb cb] 79))).alloc (by simp) (Obj.cells #[Value.bool false, Value.slice none 0 0] 79)).alloc (by simp) (Obj.cells (zrow n) 3)).alloc (by simp) (Obj.cells #[Value.bool ng, Value.slice (some { block := w.heap.size + 1 + 1 + 1, off := 0 }) n n] 79)
      have hr := ORow.made (((w.alloc (Obj.cells #[Value.bool na, Value.slice pa la ca] 79)).alloc (Obj.cells #[Value.bool nb, Value.slice pb lb cb] 79)).alloc (Obj.cells #[Value.bool false, Value.slice none 0 0] 79)) n
      have hr2 := hr.kept ((Below.refl _ _).alloc (Nat.le_refl _) (Obj.cells #[Value.bool ng, Value.slice (some { block := w.heap.size + 1 + 1 + 1, off := 0 }) n n] 79))
      simp only [World.size_alloc] at hr2
      have hx := (hbox.out.stays ((Below.refl _ _).alloc (Nat.le_refl _) (Obj.cells (zrow n) 3))).stays ((Below.refl _ _).alloc (Nat.le_refl _) (Obj.cells #[Value.bool ng, Value.slice (some { block := w.heap.size + 1 + 1 + 1, off := 0 }) n n] 79))
      exact ⟨w.heap.size + 1 + 1 + 1 + 1, w.heap.size + 1 + 1 + 1, rfl, ⟨(hH0.out.keptTo hB1 (by omega)).drew, by go_simp, by rw [List.length_replicate]; go_simp, by simp, hr2, hx, by omega, by omega, by omega⟩⟩
    · have hB1 := (((Below.refl (w.heap.size + 1 + 1) ((w.alloc (Obj.cells #[Value.bool na, Value.slice pa la ca] 79)).alloc (Obj.cells #[Value.bool nb, Value.slice pb lb cb] 79))).alloc (by simp) (Obj.cells #[Value.bool false, Value.slice none 0 0] 79)).alloc (by simp) (Obj.cells #[Value.bool ng, Value.slice (some { block := w.heap.size + 1 + 1 + 1 + 1, off := 0 }) n n] 79)).alloc (by simp) (Obj.cells (zrow n) 3)
      have hr2 := ORow.made ((((w.alloc (Obj.cells #[Value.bool na, Value.slice pa la ca] 79)).alloc (Obj.cells #[Value.bool nb, Value.slice pb lb cb] 79)).alloc (Obj.cells #[Value.bool false, Value.slice none 0 0] 79)).alloc (Obj.cells #[Value.bool ng, Value.slice (some { block := w.heap.size + 1 + 1 + 1 + 1, off := 0 }) n n] 79)) n
      simp only [World.size_alloc] at hr2
      have hx := (hbox.out.stays ((Below.refl _ _).alloc (Nat.le_refl _) (Obj.cells #[Value.bool ng, Value.slice (some { block := w.heap.size + 1 + 1 + 1 + 1, off := 0 }) n n] 79))).stays ((Below.refl _ _).alloc (Nat.le_refl _) (Obj.cells (zrow n) 3))
      exact ⟨w.heap.size + 1 + 1 + 1, w.heap.size + 1 + 1 + 1 + 1, rfl, ⟨(hH0.out.keptTo hB1 (by omega)).drew, by go_simp, by rw [List.length_replicate]; go_simp, by simp, hr2, hx, by omega, by omega, by omega⟩⟩
  case rest =>
    obtain ⟨o, g, rfl, hM0⟩ := hcut
    replace hM0 := Lib.hid hM0
    clear hmk
    go_wp2_with fail
    go_loopw [6] (fun s wr => ∃ (i : Nat) (os : List Int), i ≤ la ∧ s = .int .i64 i ∧ (os.length = n ∧ Digs (dg os) ∧ val os = dv (dg da) i * val db) ∧ MulSt w wr na nb pa pb la lb ca cb da db ng o g os) (fun s _ => la - (intOf s).toNat)
    case atStart => exact ⟨0, _, by omega, rfl, ⟨List.length_replicate, digs_zero n, by rw [val_zero]; simp [dv]⟩, hM0.out⟩
    case round =>
      clear hM0
      obtain ⟨i, os, hi, rfl, hos, hM⟩ := hrel
      obtain ⟨t0, t1, t2, t3⟩ := hM.hold.two
      have q0 := hM.c0
      have q1 := hM.c1
      obtain ⟨wo, rfl⟩ : ∃ wo : World, wo = wr := ⟨_, rfl⟩
      replace hos := Lib.hid hos
      replace hM := Lib.hid hM
      by_cases hlt : i < la
      · go_wp2_with fail
        clear t0 t1 t2 t3 q0 q1
        go_loopw [7, 8] (fun c s wr => ∃ (k : Nat) (cv : Int) (os : List Int), k ≤ lb + 1 ∧ c = .int .i64 cv ∧ s = .int .i64 k ∧ MulInv (dg da) (dg db) (val db) n i k cv os ∧ MulSt w wr na nb pa pb la lb ca cb da db ng o g os) (fun _ s _ => lb + 1 - (intOf s).toNat)
        case atStart => exact ⟨0, 0, os, by omega, rfl, rfl, MulInv.first hos.out.1 hos.out.2.1 hos.out.2.2, hM.out⟩
        case round =>
          clear hM hos
          obtain ⟨k, cv, os, hk, rfl, rfl, inv, hM⟩ := hrel
          obtain ⟨t0, t1, t2, t3⟩ := hM.hold.two
          have q0 := hM.c0
          have q1 := hM.c1
          by_cases hlast : k = lb + 1
          · subst hlast
            have hval := Lib.hid (MulInv.last (db := db) (by rw [lb'.out]; exact inv) fa.out fb.out)
            replace inv := Lib.hid inv
            replace hM := Lib.hid hM
            go_wp2_with fail
            exact ⟨⟨i + 1, os, by omega, by go_num, ⟨inv.out.len, inv.out.digs, hval.out⟩, hM.out⟩, by simp [intOf]; omega⟩
          · have hrow := hM.row.cell (i := i + k) (by rw [inv.len, hn.out]; omega)
            have hfree := hM.row.free (i := i + k)
            obtain ⟨ba, offa, rfl, hbal, hca⟩ := hM.hold.a.2.2.resolve_left (by omega)
            have hcell := hca i hlt
            obtain ⟨s0, s1, s2, s3⟩ := inv.sum fa.out fb.out
            have inv' := Lib.hid (inv.next fa.out fb.out (by rw [hn.out]; omega))
            have xd := inv.digs (i + k)
            have ad := fa.out i
            have bd := fb.out k
            have cc0 := inv.c0
            have cc1 := inv.c1
            have hol := inv.len
            rw [hol] at q1
            replace hol := Lib.hid hol
            replace inv := Lib.hid inv
            replace hM := Lib.hid hM
            generalize hx : dg os (i + k) = x at *
            generalize hy : dg da i = y at *
            generalize hz : dg db k = z at *
            replace hx := Lib.hid hx
            replace hy := Lib.hid hy
            replace hz := Lib.hid hz
            clear hca
            have hnn : n ≤ 2001 := by rw [hn.out]; omega
            have hnl : i + k < n := by rw [hn.out]; omega
            have e1 : IntKind.i64.wrap ((i : Int) + (k : Int)) = (i : Int) + (k : Int) := by rw [IntKind.wrap_i64]; omega
            have e1' : ((i : Int) + (k : Int)).toNat = i + k := by omega
            have b1 : (0 : Int) ≤ (i : Int) + (k : Int) := by omega
            have b2 : (i : Int) + (k : Int) < (n : Int) := by omega
            have b3 : (0 : Int) ≤ (i : Int) := by omega
            have b4 : (i : Int) < (la : Int) := by omega
            have e2 : IntKind.i64.wrap (cv + x) = cv + x := by rw [IntKind.wrap_i64]; omega
            have e3 : IntKind.i64.wrap (y * z) = y * z := by rw [IntKind.wrap_i64]; omega
            have e4 : IntKind.i64.wrap (cv + x + y * z) = cv + x + y * z := by rw [IntKind.wrap_i64]; omega
            have hkl : k ≤ 1000000 := by omega
            have hkt : (k : Int) < (lb : Int) + 1 := by omega
            go_upto_region 9 with (fail)
            go_region_held3 (fun w' => w'.cell? ⟨o, 1, none⟩ = some (.slice (some ⟨g, 0, none⟩) n n) ∧ w'.cell? ⟨g, i + k, none⟩ = some (.int .i64 x) ∧ w'.cell? ⟨w.heap.size, 1, none⟩ = some (.slice (some ⟨ba, offa, none⟩) la ca) ∧ w'.cell? ⟨ba, offa + i, none⟩ = some (.int .i64 y) ∧ w'.cell? ⟨w.heap.size + 1, 0, none⟩ = some (.bool nb) ∧ w'.cell? ⟨w.heap.size + 1, 1, none⟩ = some (.slice pb lb cb))
              (first | exact ⟨q1, hrow, t1, hcell, t2, t3⟩ | exact ⟨u0, u1, u2, u3, u4, u5⟩)
              (first
                | (go_at_call 56; (with_reducible refine (digB (w := w) (na := na) (pa := some ⟨ba, offa, none⟩) (la := la) (ca := ca) (da := da) (db := db) ?_ k ?_).mono ?_); exact hM.out.hold.drew; exact hkl; rintro e w1 ⟨rfl, -, hb1⟩; rw [hz.out]; have hM1 := hM.out.drew.kept hb1
                   have u0 := hM1.c1; rw [hol.out] at u0; have u1 := hM1.row.cell (i := i + k) (by rw [hol.out]; exact hnl); rw [hx.out] at u1; have u2 := hM1.hold.two.2.1; have u4 := hM1.hold.two.2.2.1; have u5 := hM1.hold.two.2.2.2; have u3 := (hb1.cell (p := ⟨ba, offa + i, none⟩) hbal.lt).trans hcell; replace hM1 := Lib.hid hM1; clear hb1))
            clear t0 t1 t2 t3 q0 q1 hrow hfree hcell e1 e1' e2 e3 e4 hM
            have fr := hM1.out.row.free (i := i + k)
            have hM2 := Lib.hid (hM1.out.set (i + k) ((cv + x + y * z) % 10000))
            clear u2 u3 u4 u5
            go_wp2_with fail
            exact ⟨⟨k + 1, _, _, by omega, rfl, by go_num, inv'.out, hM2.out⟩, by simp [intOf]; omega⟩
      · obtain rfl : i = la := by omega
        have hd := hos.out.2.1
        have hv := hos.out.2.2
        have hl := hos.out.1
        have hvv : val os = val da * val db := by rw [hv, ← la'.out]; rfl
        have hdrow := Lib.hid (hM.out.row.drow hd)
        rw [hl] at q1
        replace hvv := Lib.hid hvv
        replace hl := Lib.hid hl
        clear hd hv
        have hnn : n ≤ 2001 := by rw [hn.out]; omega
        go_wp2_with fail
        refine (trim_any ng (some ⟨g, 0, none⟩) n n os _ (by rw [← hl.out]; exact hdrow.out) (Nat.le_refl _) (by intro h; cases h) (by omega)).mono ?_
        rintro e w2 ⟨v, rfl, hv, hb2⟩
        have hbox : Box w2 (w.heap.size + 1 + 1) := hM.out.box.stays hb2
        obtain ⟨x, q, l, c, g0, g1, k0, k1⟩ := hbox.cells
        obtain ⟨neg', p', len', cap', ds', rfl, hrow', hlc', hpc', hlen', hN', hz'⟩ := hv
        have hB := Lib.hid (hM.out.hold.bel.trans (hb2.mono hM.out.hold.bel.size))
        replace hrow' := Lib.hid hrow'
        replace hpc' := Lib.hid hpc'
        replace hN' := Lib.hid hN'
        replace hz' := Lib.hid hz'
        replace hbox := Lib.hid hbox
        clear t0 t1 t2 t3 q0 q1 hb2
        go_wp2_with fail
        refine bodyPost_ret (v := .agg #[.bool neg', .slice p' len' cap']) (by simp [results, Tryz.results94, go_sem, g0, g1]) rfl ⟨_, rfl, ⟨neg', p', len', cap', ds', rfl, hbox.out.stored hrow'.out _ _, hlc', hpc'.out, hlen', ?_, hz'.out⟩, ?_⟩
        · rw [hN'.out, hvv.out]
        · exact (hB.out.setCell (by simp; omega) _).setCell (by simp; omega) _

/-- a product of exact numbers -/
theorem mulB_any (v v' : Value) (L L' : Nat) (N N' : Int) (w : World) (h : IsB w v L N) (h' : IsB w v' L' N') (hL : L ≤ 1000) (hL' : L' ≤ 1000) :
    Calls Tryz.prog 94 #[v, v'] w (RetB w (L + L' + 1) (N * N')) := by
  obtain ⟨na, pa, la, ca, da, rfl, ha, _, _, hla, hN, _⟩ := h
  obtain ⟨nb, pb, lb, cb, db, rfl, hb, _, _, hlb, hN', _⟩ := h'
  refine (mul_walk na nb _ pa pb la lb ca cb _ da db w ha hb (by omega) (by omega) rfl rfl).mono fun e w' hr => hr.more (by omega) ?_
  rw [← hN, ← hN']
  unfold sgB
  cases na <;> cases nb <;> simp [Int.neg_mul, Int.mul_neg]
end Go.Proofs.YthocnlalahknjaaGreat
namespace Go.Proofs.YthocnlalahknjaaGreat
open Go.RowKit
set_option linter.unusedVariables false

/-- what trim returns: an exact number, its digits where they were -/
def RetT (w : World) (p : Option Addr) (L : Nat) (N : Int) (e : Ending) (w' : World) : Prop :=
  ∃ (neg : Bool) (p' : Option Addr) (len cap : Nat) (ds : List Int), e = .returned (.agg #[.bool neg, .slice p' len cap]) ∧ DRow w' p' len ds ∧ len ≤ cap ∧ (p' = none → cap = 0) ∧ len ≤ L ∧ sgB neg (val ds) = N ∧ ((ds = [] → neg = false) ∧ (0 < len → dg ds (len - 1) ≠ 0)) ∧ Below w.heap.size w w' ∧ (p' = p ∨ p' = none)
/-- what a sum returns: an exact number, its digits in new memory -/
def RetF (w : World) (L : Nat) (N : Int) (e : Ending) (w' : World) : Prop :=
  ∃ (neg : Bool) (p' : Option Addr) (len cap : Nat) (ds : List Int), e = .returned (.agg #[.bool neg, .slice p' len cap]) ∧ DRow w' p' len ds ∧ len ≤ cap ∧ (p' = none → cap = 0) ∧ len ≤ L ∧ sgB neg (val ds) = N ∧ ((ds = [] → neg = false) ∧ (0 < len → dg ds (len - 1) ≠ 0)) ∧ Below w.heap.size w w' ∧ (∀ b off, p' = some ⟨b, off, none⟩ → w.heap.size ≤ b)

set_option maxHeartbeats 1000000 in
theorem trim_full (neg : Bool) (p : Option Addr) (len cap : Nat) (ds : List Int) (w : World) (h : DRow w p len ds) (hcap : len ≤ cap) (hp : p = none → cap = 0) (hm : len ≤ 1000000) :
    Calls Tryz.prog 57 #[.agg #[.bool neg, .slice p len cap]] w (RetT w p len (sgB neg (val ds))) := by
  have hrow := h
  obtain ⟨hl, hd, hc⟩ := h
  replace hc := Lib.hid hc
  replace hd := Lib.hid hd
  replace hl := Lib.hid hl
  replace hp := Lib.hid hp
  replace hrow := Lib.hid hrow
  go_enter Tryz.func57, Tryz.ntmps57
  go_upto_block 0 with (fail)
  go_cut [3] (fun t wc => ∃ n : Nat, n ≤ len ∧ t = .int .i64 n ∧ (∀ i, n ≤ i → dg ds i = 0) ∧ (0 < n → dg ds (n - 1) ≠ 0) ∧ wc = ((w.alloc (Obj.cells #[Value.bool neg, Value.slice p len cap] 79)).alloc
    (Obj.cells #[Value.bool false, Value.slice none 0 0] 79)))
  case first =>
    go_wp2_with fail
    go_loop [3] (fun t => ∃ n : Nat, n ≤ len ∧ t = .int .i64 n ∧ Hid (∀ i, n ≤ i → dg ds i = 0)) (fun t => (intOf t).toNat)
    case atStart => exact ⟨len, Nat.le_refl _, rfl, fun i hi => dg_out (by rw [hl.out]; exact hi)⟩
    case round =>
      obtain ⟨n, hn, rfl, hz⟩ := hrel
      cases n with
      | zero =>
        go_wp2_with fail
        go_meet
        exact ⟨0, by omega, rfl, hz, by omega, rfl⟩
      | succ k =>
        obtain ⟨b, off, rfl, hb3, hcell⟩ := hc.out.resolve_left (by omega)
        have hb := hb3.lt
        clear hb3
        have h1 := hcell k (by omega)
        have hne : b ≠ w.heap.size := by omega
        have hne' : b ≠ w.heap.size + 1 := by omega
        clear hcell
        by_cases hd0 : dg ds k = 0
        · rw [hd0] at h1
          replace hd0 := Lib.hid hd0
          go_wp2_with fail
          refine ⟨⟨k, by omega, by go_num, fun i hi => ?_⟩, by simp [intOf]⟩
          by_cases hik : i = k
          · rw [hik]; exact hd0.out
          · exact hz.out i (by omega)
        · have h2 : (dg ds k == 0) = false := by simpa using hd0
          generalize hg : dg ds k = d at *
          replace hg := Lib.hid hg
          replace hd0 := Lib.hid hd0
          go_wp2_with fail
          go_meet
          exact ⟨k + 1, hn, by go_num, hz, fun _ => by rw [Nat.add_sub_cancel, hg.out]; exact hd0.out, rfl⟩
  case rest =>
    obtain ⟨n, hn, rfl, hz, hlast, rfl⟩ := hcut
    replace hz := Lib.hid hz
    replace hlast := Lib.hid hlast
    by_cases h0 : n = 0
    · subst h0
      go_wp2_with fail
      have hv : val ds = 0 := by rw [← val_take (Nat.zero_le _) hz.out]; rfl
      refine bodyPost_ret (v := .agg #[.bool false, .slice none 0 0]) (by simp [results, Tryz.results57, go_sem]) rfl ⟨false, none, 0, 0, [], rfl, DRow.nil _ _, Nat.le_refl _, fun _ => rfl, Nat.zero_le _, ?_, ⟨fun _ => rfl, by omega⟩, ?_, .inr rfl⟩
      · rw [hv]; cases neg <;> rfl
      · exact ((Below.refl _ _).alloc (Nat.le_refl _) _).alloc (by simp) _
    · have h1 : ((n : Int) == 0) = false := by simpa using h0
      have h2 : (n : Int) ≤ (cap : Int) := by omega
      go_wp2_with fail
      go_region
      go_wp2_with fail
      have hB : Below w.heap.size w ((w.alloc (Obj.cells #[Value.bool neg, Value.slice p len cap] 79)).alloc (Obj.cells #[Value.bool neg, Value.slice p n cap] 79)).drew := (((Below.refl _ _).alloc (Nat.le_refl _) _).alloc (by simp) _).drew
      refine bodyPost_ret (v := .agg #[.bool neg, .slice p n cap]) (by simp [results, Tryz.results57, go_sem]) rfl ⟨neg, p, n, cap, ds.take n, rfl, (hrow.out.taken hn).kept hB, by omega, hp.out, hn, ?_, ⟨?_, ?_⟩, hB, .inl rfl⟩
      · rw [val_take (by rw [hl.out]; exact hn) hz.out]
      · intro he
        have : (ds.take n).length = 0 := by rw [he]; rfl
        rw [List.length_take, hl.out] at this
        omega
      · intro _
        have := hlast.out (by omega)
        have e : dg (ds.take n) (n - 1) = dg ds (n - 1) := by
          unfold dg
          rw [List.getD_eq_getElem?_getD, List.getD_eq_getElem?_getD, List.getElem?_take, if_pos (by omega)]
        rw [e]
        exact this

set_option maxRecDepth 100000 in
set_option maxHeartbeats 4000000 in
theorem add_sameF (n : Bool) (pa pb : Option Addr) (la lb ca cb M : Nat) (da db : List Int) (w : World) (ha : DRow w pa la da) (hb : DRow w pb lb db) (hla : la ≤ 100000) (hlb : lb ≤ 100000)
    (hM : la < lb ∧ lb = M ∨ ¬ la < lb ∧ la = M) :
    Calls Tryz.prog 29 #[.agg #[.bool n, .slice pa la ca], .agg #[.bool n, .slice pb lb cb]] w (RetF w (M + 1) (sgB n (val da + val db))) := by
  have fa := Lib.hid ha.2.1
  have fb := Lib.hid hb.2.1
  have la' := Lib.hid ha.1
  have lb' := Lib.hid hb.1
  have hH0 := Lib.hid (Hold.made (na := n) (nb := n) (ca := ca) (cb := cb) ha hb)
  clear ha hb
  have hMa : la ≤ M := by omega
  have hMb : lb ≤ M := by omega
  have hMl : M ≤ 100000 := by omega
  rcases hM with ⟨hlt, hM⟩ | ⟨hlt, hM⟩
  all_goals
    replace hM := Lib.hid hM

    go_enter Tryz.func29, Tryz.ntmps29
    go_wp2_with fail
    go_loopw [6, 7] (fun c i wr => ∃ (k : Nat) (cv : Int) (os : List Int) (v : Value), k ≤ M + 1 ∧ c = .int .i64 cv ∧ i = .int .i64 k ∧ AddInv (dg da) (dg db) k cv os ∧ Hold w wr n n pa pb la lb ca cb da db ∧ Outs wr (w.heap.size + 1 + 1 + 1) (w.heap.size + 1 + 1) n v os)
      (fun _ i _ => M + 1 - (intOf i).toNat)
    case atStart =>
      refine ⟨0, 0, [], .slice none 0 0, by omega, rfl, rfl, AddInv.first _ _, (hH0.out.keptTo (n := w.heap.size + 1 + 1) (((Below.refl _ _).alloc (by simp) _).alloc (by simp) _) (by omega)), ?_⟩
      have hx := Outs.made (((w.alloc (Obj.cells #[Value.bool n, Value.slice pa la ca] 79)).alloc (Obj.cells #[Value.bool n, Value.slice pb lb cb] 79)).alloc (Obj.cells #[Value.bool false, Value.slice none 0 0] 79)) (w.heap.size + 1 + 1) n (by
        have := Box.made ((w.alloc (Obj.cells #[Value.bool n, Value.slice pa la ca] 79)).alloc (Obj.cells #[Value.bool n, Value.slice pb lb cb] 79)) false none 0 0
        simpa using this) (by simp)
      simpa using hx
    case round =>
      obtain ⟨k, cv, os, v, hk, rfl, rfl, inv, hH, hO⟩ := hrel
      have kl := inv.len
      by_cases hlast : k = M + 1
      · subst hlast
        have hval := Lib.hid (inv.last fa.out fb.out (by rw [la'.out]; exact hMa) (by rw [lb'.out]; exact hMb))
        obtain ⟨t0, t1, t2, t3⟩ := hH.two
        obtain ⟨p, cap, rfl, hlc, hpc, hrow, hbase⟩ := own_drow hO.own inv.digs
        have q0 := hO.c0
        have q1 := hO.c1
        replace hrow := Lib.hid hrow
        replace hpc := Lib.hid hpc
        replace hbase := Lib.hid hbase
        replace inv := Lib.hid inv
        replace hH := Lib.hid hH
        replace hO := Lib.hid hO
        rw [kl] at hlc
        rw [kl] at q1
        rw [kl] at hrow
        clear kl
        first
          | have hklt : ¬ ((M + 1 : Nat) : Int) < (lb : Int) + 1 := by have := hM.out; omega
          | have hklt : ¬ ((M + 1 : Nat) : Int) < (la : Int) + 1 := by have := hM.out; omega
        go_wp2_with fail
        refine (trim_full n p (M + 1) cap os _ hrow.out hlc hpc.out (by omega)).mono ?_
        rintro e w1 ⟨neg', p', len', cap', ds', rfl, hrow', hlc', hpc', hlen', hN', hz', hb1, hsame⟩
        have hbox : Box w1 (w.heap.size + 1 + 1) := hO.out.box.kept hb1 (by have := hO.out.size; omega)
        obtain ⟨x, q, l, c, g0, g1, k0, k1⟩ := hbox.cells
        replace hsame := Lib.hid hsame
        have hB := Lib.hid (hH.out.bel.trans (hb1.mono hH.out.bel.size))
        replace hrow' := Lib.hid hrow'
        replace hpc' := Lib.hid hpc'
        replace hN' := Lib.hid hN'
        replace hz' := Lib.hid hz'
        replace hbox := Lib.hid hbox
        clear t0 t1 t2 t3 q0 q1 hb1
        go_wp2_with fail
        refine bodyPost_ret (v := .agg #[.bool neg', .slice p' len' cap']) (by simp [results, Tryz.results29, go_sem, g0, g1]) rfl ⟨neg', p', len', cap', ds', rfl, hbox.out.stored hrow'.out _ _, hlc', hpc'.out, hlen', ?_, hz'.out, ?_, ?_⟩
        · rw [hN'.out, hval.out]
        · exact (hB.out.setCell (by simp; omega) _).setCell (by simp; omega) _
        · intro b off h
          rcases hsame.out with h2 | h2
          · have := hbase.out b off (h2 ▸ h); omega
          · rw [h2] at h; cases h
      · have t := hH.two
        obtain ⟨t0, t1, t2, t3⟩ := t
        have d0 := fa.out k
        have d1 := fb.out k
        have cc0 := inv.c0
        have cc1 := inv.c1
        have inv' := Lib.hid (inv.next fa.out fb.out)
        replace inv := Lib.hid inv
        replace hH := Lib.hid hH
        replace hO := Lib.hid hO
        generalize hx : dg da k = x at *
        generalize hy : dg db k = y at *
        replace hx := Lib.hid hx
        replace hy := Lib.hid hy
        replace kl := Lib.hid kl
        first
          | have hklt : (k : Int) < (lb : Int) + 1 := by have := hM.out; omega
          | have hklt : (k : Int) < (la : Int) + 1 := by have := hM.out; omega
        have e1 : IntKind.i64.wrap (cv + x) = cv + x := by rw [IntKind.wrap_i64]; omega
        have e2 : IntKind.i64.wrap (cv + x + y) = cv + x + y := by rw [IntKind.wrap_i64]; omega
        have hkl : k ≤ 1000000 := by omega
        go_upto_region 7 with (fail)
        go_region_held3 (fun w' => w'.cell? ⟨w.heap.size, 0, none⟩ = some (.bool n) ∧ w'.cell? ⟨w.heap.size, 1, none⟩ = some (.slice pa la ca) ∧ w'.cell? ⟨w.heap.size + 1, 0, none⟩ = some (.bool n) ∧ w'.cell? ⟨w.heap.size + 1, 1, none⟩ = some (.slice pb lb cb))
          (first | exact hH.out.two | exact hH1.out.two | exact hH2.out.two)
          (first
            | (go_at_call 56; (with_reducible refine (digA (w := w) (nb := n) (pb := pb) (lb := lb) (cb := cb) (db := db) (da := da) ?_ k ?_).mono ?_); exact hH.out.drew; exact hkl; rintro e w1 ⟨rfl, hH1, hb1⟩; rw [hx.out]; replace hH1 := Lib.hid hH1; have hO1 := Lib.hid (hO.out.drew.kept hb1); clear hb1)
            | (go_at_call 56; (with_reducible refine (digB (w := w) (na := n) (pa := pa) (la := la) (ca := ca) (da := da) (db := db) ?_ k ?_).mono ?_); exact hH1.out; exact hkl; rintro e w2 ⟨rfl, hH2, hb2⟩; rw [hy.out]; replace hH2 := Lib.hid hH2; have hO2 := Lib.hid (hO1.out.kept hb2); clear hb2))
        clear t0 t1 t2 t3 e1 e2 hH hH1 hO hO1
        obtain ⟨g, c, w', hrun, z1, z2, hO3, hb3⟩ := hO2.out.more ((cv + x + y) % 10000) (by rw [kl.out]; omega)
        have q1 := hO2.out.c1
        have hH3 := Lib.hid (hH2.out.keptTo hb3 (by omega))
        replace hO3 := Lib.hid hO3
        replace hb3 := Lib.hid hb3
        replace hrun := Lib.hid hrun
        go_wp2_with (at_builtin; refine wpList_app rfl _ _ _ _ rfl _ _ _ _ rfl rfl hrun.out ?_)
        go_roundw
        case rel => exact ⟨k + 1, (cv + x + y) / 10000, _, _, by omega, rfl, by go_num, inv'.out, hH3.out, hO3.out⟩
        case measure => simp [intOf]; omega
set_option maxRecDepth 100000 in
set_option maxHeartbeats 4000000 in
theorem add_geF (na nb : Bool) (pa pb : Option Addr) (la lb ca cb : Nat) (da db : List Int) (w : World) (ha : DRow w pa la da) (hb : DRow w pb lb db) (hla : la ≤ 100000) (hlb : lb ≤ 100000)
    (hne : (na == nb) = false) (hle : val db ≤ val da) :
    Calls Tryz.prog 29 #[.agg #[.bool na, .slice pa la ca], .agg #[.bool nb, .slice pb lb cb]] w (RetF w la (sgB na (val da - val db))) := by
  have fa := Lib.hid ha.2.1
  have fb := Lib.hid hb.2.1
  have la' := Lib.hid ha.1
  have hH0 := Lib.hid (Hold.made (na := na) (nb := nb) (ca := ca) (cb := cb) ha hb)
  clear ha hb
  have hcmp : Hid (cmp3 (val da) (val db) = 0 ∨ cmp3 (val da) (val db) = 1) := by
    show _ ∨ _
    unfold cmp3
    split
    · exact .inr rfl
    · rw [if_neg (by omega)]; exact .inl rfl
  replace hle := Lib.hid hle
  go_enter Tryz.func29, Tryz.ntmps29
  go_wp2_with fail
  have hO0 : Outs ((((w.alloc (Obj.cells #[Value.bool na, Value.slice pa la ca] 79)).alloc (Obj.cells #[Value.bool nb, Value.slice pb lb cb] 79)).alloc (Obj.cells #[Value.bool false, Value.slice none 0 0] 79)).alloc (Obj.cells #[Value.bool na, Value.slice none 0 0] 79)) (w.heap.size + 1 + 1 + 1) (w.heap.size + 1 + 1) na (.slice none 0 0) [] := by
    have hx := Outs.made (((w.alloc (Obj.cells #[Value.bool na, Value.slice pa la ca] 79)).alloc (Obj.cells #[Value.bool nb, Value.slice pb lb cb] 79)).alloc (Obj.cells #[Value.bool false, Value.slice none 0 0] 79)) (w.heap.size + 1 + 1) na (by
      have := Box.made ((w.alloc (Obj.cells #[Value.bool na, Value.slice pa la ca] 79)).alloc (Obj.cells #[Value.bool nb, Value.slice pb lb cb] 79)) false none 0 0
      simpa using this) (by simp)
    simpa using hx
  have hH1 := hH0.out.keptTo (n := w.heap.size + 1 + 1) (((Below.refl _ _).alloc (by simp) (Obj.cells #[Value.bool false, Value.slice none 0 0] 79)).alloc (by simp) (Obj.cells #[Value.bool na, Value.slice none 0 0] 79)) (by omega)
  refine (larger_any na nb pa pb la lb ca cb da db _ hH1.a hH1.b (by omega) (by omega)).mono ?_
  rintro e w1 ⟨rfl, hb1⟩
  have hH2 := hH1.kept hb1
  have hO2 := hO0.kept hb1
  clear hO0 hH1 hb1
  have hc0 : ¬ cmp3 (val da) (val db) < 0 := by rcases hcmp.out with h | h <;> omega
  obtain ⟨t0, t1, t2, t3⟩ := hH2.two
  replace hH2 := Lib.hid hH2
  replace hO2 := Lib.hid hO2
  generalize cmp3 (val da) (val db) = cm at *
  go_wp2_with fail
  clear t0 t1 t2 t3
  go_loopw [6, 8] (fun c i wr => ∃ (k : Nat) (cv : Int) (os : List Int) (v : Value), k ≤ la ∧ c = .int .i64 cv ∧ i = .int .i64 k ∧ SubInv (dg da) (dg db) k cv os ∧ Hold w wr na nb pa pb la lb ca cb da db ∧ Outs wr (w.heap.size + 1 + 1 + 1) (w.heap.size + 1 + 1) na v os)
    (fun _ i _ => la - (intOf i).toNat)
  case atStart => exact ⟨0, 0, [], .slice none 0 0, by omega, rfl, rfl, SubInv.first _ _, hH2.out, hO2.out⟩
  case round =>
    clear hH2 hO2 hH0
    obtain ⟨k, cv, os, v, hk, rfl, rfl, inv, hH, hO⟩ := hrel
    have kl := inv.len
    obtain ⟨t0, t1, t2, t3⟩ := hH.two
    by_cases hlast : k = la
    · subst hlast
      have hval := Lib.hid (SubInv.last (da := da) (db := db) (c := cv) (os := os) (by rw [la'.out]; exact inv) fa.out fb.out hle.out)
      obtain ⟨p, cap, rfl, hlc, hpc, hrow, hbase⟩ := own_drow hO.own inv.digs
      have q0 := hO.c0
      have q1 := hO.c1
      replace hrow := Lib.hid hrow
      replace hpc := Lib.hid hpc
      replace hbase := Lib.hid hbase
      replace inv := Lib.hid inv
      replace hH := Lib.hid hH
      replace hO := Lib.hid hO
      rw [kl] at hlc
      rw [kl] at q1
      rw [kl] at hrow
      clear kl
      go_wp2_with fail
      refine (trim_full na p k cap os _ hrow.out hlc hpc.out (by omega)).mono ?_
      rintro e w2 ⟨neg', p', len', cap', ds', rfl, hrow', hlc', hpc', hlen', hN', hz', hb2, hsame⟩
      have hbox : Box w2 (w.heap.size + 1 + 1) := hO.out.box.kept hb2 (by have := hO.out.size; omega)
      obtain ⟨x, q, l, c, g0, g1, k0, k1⟩ := hbox.cells
      replace hsame := Lib.hid hsame
      have hB := Lib.hid (hH.out.bel.trans (hb2.mono hH.out.bel.size))
      replace hrow' := Lib.hid hrow'
      replace hpc' := Lib.hid hpc'
      replace hN' := Lib.hid hN'
      replace hz' := Lib.hid hz'
      replace hbox := Lib.hid hbox
      clear t0 t1 t2 t3 q0 q1 hb2
      go_wp2_with fail
      refine bodyPost_ret (v := .agg #[.bool neg', .slice p' len' cap']) (by simp [results, Tryz.results29, go_sem, g0, g1]) rfl ⟨neg', p', len', cap', ds', rfl, hbox.out.stored hrow'.out _ _, hlc', hpc'.out, hlen', ?_, hz'.out, ?_, ?_⟩
      · rw [hN'.out, hval.out]
      · exact (hB.out.setCell (by simp; omega) _).setCell (by simp; omega) _
      · intro b off h
        rcases hsame.out with h2 | h2
        · have := hbase.out b off (h2 ▸ h); omega
        · rw [h2] at h; cases h
    · have d0 := fa.out k
      have d1 := fb.out k
      have cc0 := inv.c0
      have cc1 := inv.c1
      have hnx := Lib.hid (fun d c' => inv.next d c')
      replace inv := Lib.hid inv
      replace hH := Lib.hid hH
      replace hO := Lib.hid hO
      generalize hx : dg da k = x at *
      generalize hy : dg db k = y at *
      replace hx := Lib.hid hx
      replace hy := Lib.hid hy
      replace kl := Lib.hid kl
      have hklt : (k : Int) < (la : Int) := by omega
      have e1 : IntKind.i64.wrap (x - y) = x - y := by rw [IntKind.wrap_i64]; omega
      have e2 : IntKind.i64.wrap (x - y - cv) = x - y - cv := by rw [IntKind.wrap_i64]; omega
      have hkl : k ≤ 1000000 := by omega
      go_upto_region 16 with (fail)
      go_region_held3 (fun w' => w'.cell? ⟨w.heap.size, 0, none⟩ = some (.bool na) ∧ w'.cell? ⟨w.heap.size, 1, none⟩ = some (.slice pa la ca) ∧ w'.cell? ⟨w.heap.size + 1, 0, none⟩ = some (.bool nb) ∧ w'.cell? ⟨w.heap.size + 1, 1, none⟩ = some (.slice pb lb cb))
        (first | exact hH.out.two | exact hH1.out.two | exact hH2.out.two)
        (first
          | (go_at_call 56; (with_reducible refine (digA (w := w) (nb := nb) (pb := pb) (lb := lb) (cb := cb) (db := db) (da := da) ?_ k ?_).mono ?_); exact hH.out.drew; exact hkl; rintro e w1 ⟨rfl, hH1, hb1⟩; rw [hx.out]; replace hH1 := Lib.hid hH1; have hO1 := Lib.hid (hO.out.drew.kept hb1); clear hb1)
          | (go_at_call 56; (with_reducible refine (digB (w := w) (na := na) (pa := pa) (la := la) (ca := ca) (da := da) (db := db) ?_ k ?_).mono ?_); exact hH1.out; exact hkl; rintro e w2 ⟨rfl, hH2, hb2⟩; rw [hy.out]; replace hH2 := Lib.hid hH2; have hO2 := Lib.hid (hO1.out.kept hb2); clear hb2))
      clear t0 t1 t2 t3 e1 e2 hH hH1 hO hO1
      by_cases hd : x - y - cv < 0
      · have inv' := Lib.hid (hnx.out (x - y - cv + 10000) 1 (by omega) (by omega) (by omega) (by omega) (by omega))
        obtain ⟨g, c, w', hrun, z1, z2, hO3, hb3⟩ := hO2.out.more (x - y - cv + 10000) (by rw [kl.out]; omega)
        have q1 := hO2.out.c1
        have hH3 := Lib.hid (hH2.out.keptTo hb3 (by omega))
        replace hO3 := Lib.hid hO3
        replace hb3 := Lib.hid hb3
        replace hrun := Lib.hid hrun
        go_wp2_with (at_builtin; refine wpList_app rfl _ _ _ _ rfl _ _ _ _ rfl rfl hrun.out ?_)
        go_roundw
        case rel => exact ⟨k + 1, 1, _, _, by omega, rfl, by go_num, inv'.out, hH3.out, hO3.out⟩
        case measure => simp [intOf]; omega
      · have inv' := Lib.hid (hnx.out (x - y - cv) 0 (by omega) (by omega) (by omega) (by omega) (by omega))
        obtain ⟨g, c, w', hrun, z1, z2, hO3, hb3⟩ := hO2.out.more (x - y - cv) (by rw [kl.out]; omega)
        have q1 := hO2.out.c1
        have hH3 := Lib.hid (hH2.out.keptTo hb3 (by omega))
        replace hO3 := Lib.hid hO3
        replace hb3 := Lib.hid hb3
        replace hrun := Lib.hid hrun
        go_wp2_with (at_builtin; refine wpList_app rfl _ _ _ _ rfl _ _ _ _ rfl rfl hrun.out ?_)
        go_roundw
        case rel => exact ⟨k + 1, 0, _, _, by omega, rfl, by go_num, inv'.out, hH3.out, hO3.out⟩
        case measure => simp [intOf]; omega

set_option maxRecDepth 100000 in
set_option maxHeartbeats 4000000 in
theorem add_ltF (na nb : Bool) (pa pb : Option Addr) (la lb ca cb : Nat) (da db : List Int) (w : World) (ha : DRow w pa la da) (hb : DRow w pb lb db) (hla : la ≤ 100000) (hlb : lb ≤ 100000)
    (hne : (na == nb) = false) (hlt : val da < val db) :
    Calls Tryz.prog 29 #[.agg #[.bool na, .slice pa la ca], .agg #[.bool nb, .slice pb lb cb]] w (RetF w lb (sgB nb (val db - val da))) := by
  have hH0 := Lib.hid (Hold.made (na := na) (nb := nb) (ca := ca) (cb := cb) ha hb)
  clear ha hb
  have hcmp : Hid (cmp3 (val da) (val db) = -1) := by
    show _ = _
    unfold cmp3
    rw [if_neg (by omega), if_pos hlt]
  replace hlt := Lib.hid hlt
  go_enter Tryz.func29, Tryz.ntmps29
  go_wp2_with fail
  have hbox0 : Box ((((w.alloc (Obj.cells #[Value.bool na, Value.slice pa la ca] 79)).alloc (Obj.cells #[Value.bool nb, Value.slice pb lb cb] 79)).alloc (Obj.cells #[Value.bool false, Value.slice none 0 0] 79)).alloc (Obj.cells #[Value.bool na, Value.slice none 0 0] 79)) (w.heap.size + 1 + 1) := by
    have := Box.made ((w.alloc (Obj.cells #[Value.bool na, Value.slice pa la ca] 79)).alloc (Obj.cells #[Value.bool nb, Value.slice pb lb cb] 79)) false none 0 0
    have h2 := this.kept ((Below.refl _ _).alloc (Nat.le_refl _) (Obj.cells #[Value.bool na, Value.slice none 0 0] 79)) (by simp)
    simpa using h2
  have hH1 := hH0.out.keptTo (n := w.heap.size + 1 + 1) (((Below.refl _ _).alloc (by simp) (Obj.cells #[Value.bool false, Value.slice none 0 0] 79)).alloc (by simp) (Obj.cells #[Value.bool na, Value.slice none 0 0] 79)) (by omega)
  refine (larger_any na nb pa pb la lb ca cb da db _ hH1.a hH1.b (by omega) (by omega)).mono ?_
  rintro e w1 ⟨rfl, hb1⟩
  rw [hcmp.out]
  have hH2 := hH1.kept hb1
  have hbox1 := hbox0.kept hb1 (by simp)
  have hs1 := hb1.size
  simp at hs1
  clear hH1 hb1 hbox0
  obtain ⟨t0, t1, t2, t3⟩ := hH2.two
  replace hH2 := Lib.hid hH2
  replace hbox1 := Lib.hid hbox1
  go_wp2_with fail
  refine (add_geF nb na pb pa lb la cb ca db da _ hH2.out.b hH2.out.a hlb hla (by cases na <;> cases nb <;> simp_all) (Int.le_of_lt hlt.out)).mono ?_
  rintro e w2 ⟨neg', p', len', cap', ds', rfl, hrow', hlc', hpc', hlen', hN', hz', hb2, hfresh⟩
  have hbox : Box w2 (w.heap.size + 1 + 1) := hbox1.out.kept hb2 (by omega)
  obtain ⟨x, q, l, c, g0, g1, k0, k1⟩ := hbox.cells
  replace hfresh := Lib.hid hfresh
  have hsz := hH2.out.bel.size
  have hB := Lib.hid (hH2.out.bel.trans (hb2.mono hH2.out.bel.size))
  replace hrow' := Lib.hid hrow'
  replace hpc' := Lib.hid hpc'
  replace hN' := Lib.hid hN'
  replace hz' := Lib.hid hz'
  replace hbox := Lib.hid hbox
  clear t0 t1 t2 t3 hb2
  go_wp2_with fail
  refine bodyPost_ret (v := .agg #[.bool neg', .slice p' len' cap']) (by simp [results, Tryz.results29, go_sem, g0, g1]) rfl ⟨neg', p', len', cap', ds', rfl, hbox.out.stored hrow'.out _ _, hlc', hpc'.out, hlen', hN'.out, hz'.out, ?_, fun b off h => Nat.le_trans hsz (hfresh.out b off h)⟩
  exact (hB.out.setCell (by simp; omega) _).setCell (by simp; omega) _


theorem RetF.more {w : World} {L L' : Nat} {N N' : Int} {e : Ending} {w' : World} (h : RetF w L N e w') (hL : L ≤ L') (hN : N = N') : RetF w L' N' e w' := by
  obtain ⟨neg, p, len, cap, ds, h1, h2, h3, h4, h5, h6, h7⟩ := h
  exact ⟨neg, p, len, cap, ds, h1, h2, h3, h4, Nat.le_trans h5 hL, h6.trans hN, h7⟩
/-- a sum of exact numbers -/
theorem addF_any (v v' : Value) (L : Nat) (N N' : Int) (w : World) (h : IsB w v L N) (h' : IsB w v' L N') (hL : L ≤ 100000) :
    Calls Tryz.prog 29 #[v, v'] w (RetF w (L + 1) (N + N')) := by
  obtain ⟨na, pa, la, ca, da, rfl, ha, _, _, hla, hN, _⟩ := h
  obtain ⟨nb, pb, lb, cb, db, rfl, hb, _, _, hlb, hN', _⟩ := h'
  by_cases hs : na = nb
  · subst hs
    have hM : la < lb ∧ lb = max la lb ∨ ¬ la < lb ∧ la = max la lb := by omega
    refine (add_sameF na pa pb la lb ca cb (max la lb) da db w ha hb (by omega) (by omega) hM).mono fun e w' hr => hr.more (by omega) ?_
    rw [← hN, ← hN']
    unfold sgB
    cases na <;> simp <;> omega
  · have hne : (na == nb) = false := by simpa using hs
    rcases Int.lt_or_le (val da) (val db) with hlt | hle
    · refine (add_ltF na nb pa pb la lb ca cb da db w ha hb (by omega) (by omega) hne hlt).mono fun e w' hr => hr.more (by omega) ?_
      rw [← hN, ← hN']
      unfold sgB
      cases na <;> cases nb <;> simp at hs ⊢ <;> omega
    · refine (add_geF na nb pa pb la lb ca cb da db w ha hb (by omega) (by omega) hne hle).mono fun e w' hr => hr.more (by omega) ?_
      rw [← hN, ← hN']
      unfold sgB
      cases na <;> cases nb <;> simp at hs ⊢ <;> omega
end Go.Proofs.YthocnlalahknjaaGreat
