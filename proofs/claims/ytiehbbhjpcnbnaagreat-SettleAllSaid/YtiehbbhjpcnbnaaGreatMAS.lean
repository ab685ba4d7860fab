/- The contracts of limitsOf and of a guard's New.
  The contract of a guard's New. -/
import Derived.Test.YtiehbbhjpcnbnaaGreatMAR
namespace Go.Proofs.YtiehbbhjpcnbnaaGreat
open Go.RowKit
set_option linter.unusedVariables false

/-- a limit that came in -/
structure LV where
  p : Option Addr
  n : Nat
  cap : Nat
  xs : List Int
  all : Int
def LV.lim (v : LV) : Lim := ⟨v.xs, v.all⟩
def okV (nc : Nat) (v : LV) : Bool := decide (v.n = nc) && !negB v.xs && !decide (v.all < 0)
def limsOk (ls : List LV) (nm nc : Nat) : Bool := decide (ls.length = nm) && ls.all (okV nc)
def LimM (ls : List LV) : Nat → Lim := fun m => match ls[m]? with | some v => v.lim | none => ⟨[], 0⟩
theorem LimM_at {ls : List LV} {m : Nat} {v : LV} (h : ls[m]? = some v) : LimM ls m = v.lim := by unfold LimM; rw [h]
structure LV.Ok (v : LV) (w : World) : Prop where
  row : Seq64 w v.p v.n v.xs
  all : In64 v.all
/-- a row of limits that is read -/
def LRow (w : World) (p : Option Addr) (len : Nat) (ls : List LV) : Prop :=
  ls.length = len ∧ len ≤ 140737488351232 ∧ (∀ v ∈ ls, v.Ok w) ∧ (len = 0 ∨ ∃ b off, p = some ⟨b, off, none⟩ ∧ b < w.heap.size ∧ ∀ i v, ls[i]? = some v → w.cell? ⟨b, off + i * 2, none⟩ = some (.slice v.p v.n v.cap) ∧ w.cell? ⟨b, off + i * 2 + 1, none⟩ = some (.int .i64 v.all))
theorem LV.Ok.kept {v : LV} {w w' : World} (h : v.Ok w) (hb : Below w.heap.size w w') : v.Ok w' := ⟨h.row.kept hb, h.all⟩
theorem LRow.kept {w w' : World} {p : Option Addr} {len : Nat} {ls : List LV} (h : LRow w p len ls) (hb : Below w.heap.size w w') : LRow w' p len ls := by
  obtain ⟨h1, h2, h3, h4⟩ := h
  refine ⟨h1, h2, fun v hv => (h3 v hv).kept hb, h4.imp id ?_⟩
  rintro ⟨b, off, rfl, hlt, hc⟩
  exact ⟨b, off, rfl, Nat.lt_of_lt_of_le hlt hb.size, fun i v hv => ⟨(hb.cell (p := ⟨b, off + i * 2, none⟩) hlt).trans (hc i v hv).1, (hb.cell (p := ⟨b, off + i * 2 + 1, none⟩) hlt).trans (hc i v hv).2⟩⟩
theorem Tryz.info67g : (Tryz.prog.info? 58).map (fun i => (i.zero, i.size, i.bytes)) = some (some (.agg #[.slice none 0 0, .int .i64 0]), 2, 32) := by kernel_rfl
theorem Tryz.info4g : (Tryz.prog.info? 4).map (fun i => (i.zero, i.size, i.bytes)) = some (some (.bool false), 1, 1) := by kernel_rfl
def zl (n : Nat) : Array Value := madeCells #[.slice none 0 0, .int .i64 0] (n * 2)
theorem make_limits (n : Nat) (hn : n ≤ 1000) (w : World) : (Instr.makeSlice 23 (.int .i64 (n : Int)) (.int .i64 (n : Int))).run Tryz.prog w = .ok (.slice (some ⟨w.heap.size, 0, none⟩) n n) (w.alloc (.cells (zl n) 58)) := by
  obtain ⟨i0, hi, hz0, hz1, hz2⟩ := info_parts Tryz.info67g
  have hb : (i0.bytes : Int) * (n : Int) ≤ 281474976710656 := by rw [hz2]; omega
  have hr := run_make (P := Tryz.prog) w 23 58 i0 _ Tryz.underlying23 hi hz0 .i64 .i64 n n (by omega) (by omega) hb (by omega)
  simp only [Int.toNat_natCast, hz1] at hr
  exact hr
def zf (n : Nat) : Array Value := madeCells #[Value.bool false] n
theorem zf_get (n : Nat) : ∀ i, i < n → (zf n)[i]? = some (.bool false) := fun i hi => by
  unfold zf madeCells
  simp [hi, Nat.mod_one]
theorem make_flags (n : Nat) (hn : n ≤ 1000) (w : World) : (Instr.makeSlice 70 (.int .i64 (n : Int)) (.int .i64 (n : Int))).run Tryz.prog w = .ok (.slice (some ⟨w.heap.size, 0, none⟩) n n) (w.alloc (.cells (zf n) 4)) := by
  obtain ⟨i0, hi, hz0, hz1, hz2⟩ := info_parts Tryz.info4g
  have hb : (i0.bytes : Int) * (n : Int) ≤ 281474976710656 := by rw [hz2]; omega
  have hr := run_make (P := Tryz.prog) w 70 4 i0 _ Tryz.underlying70 hi hz0 .i64 .i64 n n (by omega) (by omega) hb (by omega)
  simp only [Int.toNat_natCast, hz1, Nat.mul_one] at hr
  exact hr

/-- limitsOf's way: k limits are taken -/
structure LQ (w : World) (nc nm : Nat) (ls : List LV) (gL k : Nat) (wr : World) : Prop where
  row : ∃ cs, wr.heap[gL]? = some (.cells cs 58 (0, 0)) ∧ cs.size = nm * 2 ∧ ∀ m, m < k → ∃ g c, cs[m * 2]? = some (.slice (some ⟨g, 0, none⟩) nc c) ∧ cs[m * 2 + 1]? = some (.int .i64 (LimM ls m).all) ∧ (w.heap.size ≤ g ∧ g ≠ gL) ∧ g < wr.heap.size ∧ Seq64 wr (some ⟨g, 0, none⟩) nc (LimM ls m).xs ∧ (∀ c, 0 ≤ (LimM ls m).sh c) ∧ In64 (LimM ls m).all
  blw : Below w.heap.size w wr
  gge : w.heap.size ≤ gL
theorem Seq64.lt {w : World} {g n : Nat} {zs : List Int} (h : Seq64 w (some ⟨g, 0, none⟩) n zs) (h1 : 1 ≤ n) : g < w.heap.size := by
  obtain ⟨b, off, e, hlt, _⟩ := h.2.2.2.resolve_left (by omega)
  injection e with e
  injection e with e1
  rw [e1]; exact hlt
theorem LQ.lt {w wr : World} {nc nm gL k : Nat} {ls : List LV} (h : LQ w nc nm ls gL k wr) : gL < wr.heap.size := by obtain ⟨cs, h1, _⟩ := h.row; exact obj_lt h1
theorem LQ.below {w wr w' : World} {nc nm gL k : Nat} {ls : List LV} (h : LQ w nc nm ls gL k wr) (hb : Below wr.heap.size wr w') : LQ w nc nm ls gL k w' := by
  obtain ⟨cs, h1, h2, h3⟩ := h.row
  refine ⟨⟨cs, (hb.block _ (obj_lt h1)).trans h1, h2, fun m hm => ?_⟩, h.blw.trans (hb.mono h.blw.size), h.gge⟩
  obtain ⟨g, c, a1, a2, a3, a4, a5, a6⟩ := h3 m hm
  exact ⟨g, c, a1, a2, a3, Nat.lt_of_lt_of_le a4 hb.size, a5.kept hb, a6⟩
theorem LQ.cells {w wr : World} {nc nm gL k : Nat} {ls : List LV} (h : LQ w nc nm ls gL k wr) (hk : k < nm) : (∃ a, wr.cell? ⟨gL, k * 2, none⟩ = some a) ∧ (∃ a, wr.cell? ⟨gL, k * 2 + 1, none⟩ = some a) ∧ ∀ i, wr.frozen? ⟨gL, i, none⟩ = false := by
  obtain ⟨cs, h1, h2, h3⟩ := h.row
  exact ⟨⟨_, obj_cell h1 (Array.getElem?_eq_getElem (by omega))⟩, ⟨_, obj_cell h1 (Array.getElem?_eq_getElem (by omega))⟩, fun i => obj_free h1 i⟩
theorem LQ.step {w wr : World} {nc nm gL k g c : Nat} {ls : List LV} {v : LV} (h : LQ w nc nm ls gL k wr) (hk : k < nm) (hv : ls[k]? = some v) (ho : okV nc v = true) (hall : In64 v.all) (hg : w.heap.size ≤ g ∧ g ≠ gL) (hlt : g < wr.heap.size) (hs : Seq64 wr (some ⟨g, 0, none⟩) nc v.xs) :
    LQ w nc nm ls gL (k + 1) ((wr.setCell ⟨gL, k * 2, none⟩ (.slice (some ⟨g, 0, none⟩) nc c)).setCell ⟨gL, k * 2 + 1, none⟩ (.int .i64 v.all)) := by
  obtain ⟨cs, h1, h2, h3⟩ := h.row
  have hK : Kp (fun j => j = gL) wr ((wr.setCell ⟨gL, k * 2, none⟩ (.slice (some ⟨g, 0, none⟩) nc c)).setCell ⟨gL, k * 2 + 1, none⟩ (.int .i64 v.all)) := ((Kp.refl (fun j => j = gL) wr).setCell (p := ⟨gL, k * 2, none⟩) (.inl rfl) _).setCell (p := ⟨gL, k * 2 + 1, none⟩) (.inl rfl) _
  have hneg : negB v.xs = false := by
    unfold okV at ho
    simp at ho
    exact ho.1.2
  refine ⟨⟨_, obj_set (obj_set h1 (k * 2) _) (k * 2 + 1) _, by simp [h2], fun m hm => ?_⟩, (h.blw.setCell h.gge _).setCell h.gge _, h.gge⟩
  by_cases e : m = k
  · subst e
    refine ⟨g, c, ?_, ?_, hg, Nat.lt_of_lt_of_le hlt hK.size, ?_, ?_, ?_⟩
    · rw [Array.getElem?_setIfInBounds_ne (by omega), Array.getElem?_setIfInBounds_self_of_lt (by omega)]
    · rw [LimM_at hv, Array.getElem?_setIfInBounds_self_of_lt (by simp; omega)]; rfl
    · rw [LimM_at hv]; exact hs.atB hlt hK.size (hK.block _ hlt hg.2)
    · rw [LimM_at hv]; exact negB_all hneg
    · rw [LimM_at hv]; exact hall
  · obtain ⟨g', c', a1, a2, a3, a4, a5, a6⟩ := h3 m (by omega)
    refine ⟨g', c', ?_, ?_, a3, Nat.lt_of_lt_of_le a4 hK.size, a5.atB a4 hK.size (hK.block _ a4 a3.2), a6⟩
    · rw [Array.getElem?_setIfInBounds_ne (by omega), Array.getElem?_setIfInBounds_ne (by omega)]; exact a1
    · rw [Array.getElem?_setIfInBounds_ne (by omega), Array.getElem?_setIfInBounds_ne (by omega)]; exact a2
theorem LQ.done {w wr : World} {nc nm gL : Nat} {ls : List LV} (h : LQ w nc nm ls gL nm wr) : LR (fun j => w.heap.size ≤ j) wr gL nc nm (LimM ls) := by
  obtain ⟨cs, h1, h2, h3⟩ := h.row
  refine ⟨cs, h1, fun m hm => ?_⟩
  obtain ⟨g, c, a1, a2, a3, a4⟩ := h3 m hm
  exact ⟨g, c, a1, a2, a3.1, a4⟩
def LimO (ls : List LV) (nm nc : Nat) (w : World) (e : Ending) (w' : World) : Prop :=
  (limsOk ls nm nc = true → ∃ gL cL, e = .returned (.tuple #[.slice (some ⟨gL, 0, none⟩) nm cL, .int .i64 0]) ∧ LR (fun j => w.heap.size ≤ j) w' gL nc nm (LimM ls) ∧ w.heap.size ≤ gL) ∧ (limsOk ls nm nc = false → e = .returned (.tuple #[.slice none 0 0, .int .i64 1])) ∧ Below w.heap.size w w'
theorem limsOk_no {ls : List LV} {nm nc k : Nat} {v : LV} (hv : ls[k]? = some v) (h : okV nc v = false) : limsOk ls nm nc = false := by
  unfold limsOk
  have : ls.all (okV nc) = false := by rw [List.all_eq_false]; exact ⟨v, List.mem_of_getElem? hv, by simp [h]⟩
  rw [this, Bool.and_false]
theorem limsOk_yes {ls : List LV} {nm nc : Nat} (hl : ls.length = nm) (h : ∀ (k : Nat) (v : LV), ls[k]? = some v → okV nc v = true) : limsOk ls nm nc = true := by
  unfold limsOk
  have : ls.all (okV nc) = true := List.all_eq_true.2 fun v hv => by
    obtain ⟨i, hi, rfl⟩ := List.getElem_of_mem hv
    exact h i _ (List.getElem?_eq_getElem hi)
  rw [this, Bool.and_true]
  simpa using hl
theorem LimO.no {ls : List LV} {nm nc : Nat} {w w' : World} (h : limsOk ls nm nc = false) (hb : Below w.heap.size w w') : LimO ls nm nc w (.returned (.tuple #[.slice none 0 0, .int .i64 1])) w' := ⟨fun e => (by rw [h] at e; cases e), fun _ => rfl, hb⟩
set_option maxHeartbeats 4000000 in
set_option maxRecDepth 100000 in
theorem limitsOf_any (p : Option Addr) (len cap : Nat) (ls : List LV) (nm nc : Nat) (w : World) (h : LRow w p len ls) (hnm : 1 ≤ nm ∧ nm ≤ 16) (hnc : 1 ≤ nc ∧ nc ≤ 8) :
    Calls Tryz.prog 49 #[.slice p len cap, .int .i64 (nm : Int), .int .i64 (nc : Int)] w (LimO ls nm nc w) := by
  have hlen := h.1
  have hmx := h.2.1
  by_cases hne : len = nm
  · subst hne
    have hz : ((len : Int) != (len : Int)) = false := by simp
    have hmk := make_limits len (by omega)
    have hS0 : LQ w nc len ls w.heap.size 0 (w.alloc (.cells (zl len) 58)) := ⟨⟨zl len, heap_alloc_new w _, by unfold zl; simp [size_madeCells], fun m hm => by omega⟩, (Below.refl _ _).alloc (Nat.le_refl _) _, Nat.le_refl _⟩
    have hA0 : ∀ (i : Nat) (v : LV), i < 0 → ls[i]? = some v → okV nc v = true := fun i v hi => by omega
    replace hS0 := Lib.hid hS0
    replace h := Lib.hid h
    replace hA0 := Lib.hid hA0
    replace hlen := Lib.hid hlen
    go_enter Tryz.func49, Tryz.ntmps49
    go_upto_region 5 with (fail)
    go_loopw [18] (fun i wr => ∃ k : Nat, k ≤ len ∧ i = .int .i64 (k : Int) ∧ Hid (LQ w nc len ls w.heap.size k wr) ∧ Hid (∀ (i : Nat) (v : LV), i < k → ls[i]? = some v → okV nc v = true)) (fun i _ => len - (intOf i).toNat)
    case atStart => exact ⟨0, by omega, rfl, hS0, hA0⟩
    case round =>
      obtain ⟨k, hk, rfl, hS, hA⟩ := hrel
      by_cases hkl : k < len
      · have hkz : (k : Int) < (len : Int) := by omega
        have hT := hS.out
        have hws := hT.blw.size
        obtain ⟨_, _, hoks, hrw⟩ := h.out
        obtain ⟨rb, off, rfl, hbs, hcells⟩ := hrw.resolve_left (by omega)
        obtain ⟨v, hv⟩ : ∃ v, ls[k]? = some v := ⟨_, List.getElem?_eq_getElem (by rw [hlen.out]; exact hkl)⟩
        obtain ⟨q0, q1⟩ := hcells k v hv
        replace q0 := (hT.blw.cell (p := ⟨rb, off + k * 2, none⟩) hbs).trans q0
        replace q1 := (hT.blw.cell (p := ⟨rb, off + k * 2 + 1, none⟩) hbs).trans q1
        have hvo := hoks v (List.mem_of_getElem? hv)
        have hbx := heap_alloc_new wr (.cells #[.slice v.p v.n v.cap, .int .i64 v.all] 58)
        have hBz : Below wr.heap.size wr (wr.alloc (.cells #[.slice v.p v.n v.cap, .int .i64 v.all] 58)) := (Below.refl _ _).alloc (Nat.le_refl _) _
        have hB2 : Below w.heap.size w (wr.alloc (.cells #[.slice v.p v.n v.cap, .int .i64 v.all] 58)) := hT.blw.trans (hBz.mono hws)
        have hvs : Seq64 (wr.alloc (.cells #[.slice v.p v.n v.cap, .int .i64 v.all] 58)) v.p v.n v.xs := hvo.row.kept hB2
        have hva := hvo.all
        have hN := neg_any v.all
        have hC := contains_neg v.p v.n v.cap v.xs _ hvs
        have hTz := hT.below hBz
        replace hcells := Lib.hid hcells
        replace hrw := Lib.hid hrw
        replace hoks := Lib.hid hoks
        replace hvo := Lib.hid hvo
        generalize hv1 : wr.alloc (.cells #[.slice v.p v.n v.cap, .int .i64 v.all] 58) = v1 at *
        have d0 : v1.cell? ⟨wr.heap.size, 0, none⟩ = some (.slice v.p v.n v.cap) := obj_cell hbx rfl
        have d1 : v1.cell? ⟨wr.heap.size, 1, none⟩ = some (.int .i64 v.all) := obj_cell hbx rfl
        have hnew : wr.heap.size < v1.heap.size := obj_lt hbx
        have hok : okV nc v = (decide (v.n = nc) && !negB v.xs && !decide (v.all < 0)) := rfl
        have hlno : okV nc v = false → limsOk ls len nc = false := limsOk_no hv
        have hvn : v.n ≤ 4611686018427387904 := hvs.2.2.1
        replace hT := Lib.hid hT
        replace hv1 := Lib.hid hv1
        replace hbx := Lib.hid hbx
        replace hBz := Lib.hid hBz
        replace hlno := Lib.hid hlno
        replace hva := Lib.hid hva
        replace hv := Lib.hid hv
        by_cases hn : v.n = nc
        · have hnz : ((v.n : Int) != (nc : Int)) = false := by simp; omega
          rw [show decide (v.n = nc) = true from by simpa using hn] at hok
          cases hng : negB v.xs with
          | true =>
            rw [hng] at hC hok
            have hl0 := hlno.out (by rw [hok]; rfl)
            replace hC := Lib.hid hC
            replace hok := Lib.hid hok
            replace hl0 := Lib.hid hl0
            replace hng := Lib.hid hng
            replace hn := Lib.hid hn
            replace hTz := Lib.hid hTz
            replace hB2 := Lib.hid hB2
            replace hvs := Lib.hid hvs
            replace hN := Lib.hid hN
            go_upto_region 8 with (fail)
            change Code.wp _ _ _ _ (wr.alloc (.cells #[.slice v.p v.n v.cap, .int .i64 v.all] 58))
            rw [hv1.out]
            go_wp2_with (first | (go_at_call 74; (with_reducible refine hC.out.mono ?_); rintro e w2 ⟨rfl, hb2⟩; replace hb2 := Lib.hid hb2))
            go_ret2
            exact LimO.no hl0.out (hB2.out.trans (hb2.out.mono hB2.out.size))
          | false =>
            rw [hng] at hC hok
            replace hC : Calls Tryz.prog 74 #[.slice v.p v.n v.cap, .func (.func 75) #[] #[]] v1 fun e w' => e = .returned (.bool false) ∧ Below v1.heap.size v1 w' ∧ w'.cell? ⟨wr.heap.size, 0, none⟩ = some (.slice v.p v.n v.cap) ∧ w'.cell? ⟨wr.heap.size, 1, none⟩ = some (.int .i64 v.all) := hC.mono fun e w' ⟨h1, h2⟩ => ⟨h1, h2, (h2.cell (p := ⟨wr.heap.size, 0, none⟩) hnew).trans d0, (h2.cell (p := ⟨wr.heap.size, 1, none⟩) hnew).trans d1⟩
            by_cases ha : v.all < 0
            · rw [show decide (v.all < 0) = true from by simpa using ha] at hok hN
              have hl0 := hlno.out (by rw [hok]; rfl)
              replace hC := Lib.hid hC
              replace hok := Lib.hid hok
              replace hl0 := Lib.hid hl0
              replace hng := Lib.hid hng
              replace hn := Lib.hid hn
              replace ha := Lib.hid ha
              replace hTz := Lib.hid hTz
              replace hB2 := Lib.hid hB2
              replace hvs := Lib.hid hvs
              replace hN := Lib.hid hN
              go_upto_region 8 with (fail)
              change Code.wp _ _ _ _ (wr.alloc (.cells #[.slice v.p v.n v.cap, .int .i64 v.all] 58))
              rw [hv1.out]
              go_wp2_with (first | (go_at_call 74; (with_reducible refine hC.out.mono ?_); rintro e w2 ⟨rfl, hb2, f0, f1⟩; replace hb2 := Lib.hid hb2) | (go_at_call 75; (with_reducible refine (hN.out _).mono ?_); rintro e w3 ⟨rfl, rfl⟩))
              go_ret2
              exact LimO.no hl0.out (hB2.out.trans (hb2.out.mono hB2.out.size))
            · rw [show decide (v.all < 0) = false from by simpa using ha] at hok hN
              have hok1 : okV nc v = true := hok
              have hA1 : ∀ (i : Nat) (y : LV), i < k + 1 → ls[i]? = some y → okV nc y = true := fun i y hi hy => by
                by_cases e : i = k
                · subst e; rw [hv.out] at hy; injection hy with hy; rw [← hy]; exact hok1
                · exact hA.out i y (by omega) hy
              obtain ⟨vb, voff, hvp⟩ : ∃ vb voff, v.p = some ⟨vb, voff, none⟩ := by
                obtain ⟨vb, voff, e, _⟩ := hvs.2.2.2.resolve_left (by omega)
                exact ⟨vb, voff, e⟩
              have hcln : ∀ wz, Below v1.heap.size v1 wz → Calls Tryz.prog 76 #[.slice v.p v.n v.cap] wz fun e w' => ∃ g' c', e = .returned (.slice (some ⟨g', 0, none⟩) nc c') ∧ Seq64 w' (some ⟨g', 0, none⟩) nc v.xs ∧ wz.heap.size ≤ g' ∧ Below wz.heap.size wz w' := fun wz hb => by
                have hs2 := hvs.kept hb
                rw [hvp, hn] at hs2
                rw [hvp, hn]
                exact cloneI_any vb voff nc v.cap v.xs wz hs2 (by omega) (by omega)
              replace hC := Lib.hid hC
              replace hok := Lib.hid hok
              replace hok1 := Lib.hid hok1
              replace hA1 := Lib.hid hA1
              replace hng := Lib.hid hng
              replace hn := Lib.hid hn
              replace ha := Lib.hid ha
              replace hTz := Lib.hid hTz
              replace hB2 := Lib.hid hB2
              replace hvs := Lib.hid hvs
              replace hN := Lib.hid hN
              replace hcln := Lib.hid hcln
              replace hvp := Lib.hid hvp
              go_upto_block 1 with fail
              go_cut [9, 10] from 20 to 48 (fun v9 v10 wc => Hid (LQ w nc len ls w.heap.size (k + 1) wc))
              case first =>
                go_upto_region 8 with (fail)
                change Code.wp _ _ _ _ (wr.alloc (.cells #[.slice v.p v.n v.cap, .int .i64 v.all] 58))
                rw [hv1.out]
                go_upto_region 10 with (first | (go_at_call 74; (with_reducible refine hC.out.mono ?_); rintro e w2 ⟨rfl, hb2, f0, f1⟩) | (go_at_call 75; (with_reducible refine (hN.out _).mono ?_); rintro e w3 ⟨rfl, rfl⟩))
                have hT2 := hTz.out.below hb2
                have hn2 : wr.heap.size < w2.heap.size := Nat.lt_of_lt_of_le hnew hb2.size
                have hne2 : wr.heap.size ≠ w.heap.size := by have := hT.out.lt; omega
                have hwsz : w.heap.size < w2.heap.size := by omega
                replace hb2 := Lib.hid hb2
                clear d0 d1 q0 q1
                rename_i J1 K1 hJ1 hK1
                refine wp_region_closed (by kernel_rfl) (fun L az wz => ∃ v40 v41 v42 v43 v44 v45 v46 v47 v48 : Value, az = ({ tmps := (Value.slice (some { block := rb, off := off }) len cap :: Value.int IntKind.i64 ↑len :: Value.int IntKind.i64 ↑nc :: undef :: undef :: undef :: u6 :: u7 :: Value.slice (some { block := w.heap.size, off := 0 }) len len :: Value.int IntKind.i64 ↑k :: Value.pointer (some { block := wr.heap.size, off := 0 }) :: Value.slice (some { block := rb, off := off }) len cap :: Value.int IntKind.i64 ↑len :: Value.int IntKind.i64 ↑len :: Value.bool false :: Value.int IntKind.i64 ↑len :: Value.slice (some { block := w.heap.size, off := 0 }) len len :: Value.int IntKind.i64 ↑len :: Value.int IntKind.i64 ↑k :: Value.bool true :: Value.int IntKind.i64 ↑k :: Value.slice (some { block := rb, off := off }) len cap :: Value.int IntKind.i64 ↑k :: Value.pointer (some { block := rb, off := off + k * 2 }) :: Value.agg #[Value.slice v.p v.n v.cap, Value.int IntKind.i64 v.all] :: Value.pointer (some { block := wr.heap.size, off := 0 }) :: Value.slice v.p v.n v.cap :: Value.int IntKind.i64 ↑v.n :: Value.int IntKind.i64 ↑nc :: Value.bool false :: Value.bool false :: Value.pointer (some { block := wr.heap.size, off := 0 }) :: Value.slice v.p v.n v.cap :: Value.bool false :: Value.bool false :: Value.bool false :: Value.pointer (some { block := wr.heap.size, off := 1 }) :: Value.int IntKind.i64 v.all :: Value.bool false :: Value.bool false :: v40 :: v41 :: v42 :: v43 :: v44 :: v45 :: v46 :: v47 :: v48 :: u49 :: undef :: []).toArray, defers := [] } : Act) ∧ (L 9 = false → LQ w nc len ls w.heap.size k wz) ∧ (L 9 = true → LQ w nc len ls w.heap.size (k + 1) wz) ∧ (wz.cell? ⟨wr.heap.size, 0, none⟩ = some (.slice v.p v.n v.cap)) ∧ (wz.cell? ⟨wr.heap.size, 1, none⟩ = some (.int .i64 v.all)) ∧ (w.heap.size < wz.heap.size) ∧ (L 9 = false → Below v1.heap.size v1 wz) ∧ (L 0 = true → v40 = Value.slice (some ⟨w.heap.size, 0, none⟩) len len) ∧ (L 1 = true → v41 = Value.int IntKind.i64 (k : Int)) ∧ (L 2 = true → v42 = Value.pointer (some ⟨wr.heap.size, 0, none⟩)) ∧ (L 3 = true → v43 = Value.slice v.p v.n v.cap) ∧ (L 4 = true → L 9 = false → ∃ g c, v44 = Value.slice (some ⟨g, 0, none⟩) nc c ∧ Seq64 wz (some ⟨g, 0, none⟩) nc v.xs ∧ (w.heap.size ≤ g ∧ g ≠ w.heap.size) ∧ g < wz.heap.size) ∧ (L 5 = true → v45 = Value.pointer (some ⟨wr.heap.size, 1, none⟩)) ∧ (L 6 = true → v46 = Value.int IntKind.i64 v.all) ∧ (L 7 = true → L 9 = false → ∃ g c, v47 = Value.agg #[Value.slice (some ⟨g, 0, none⟩) nc c, Value.int IntKind.i64 v.all] ∧ Seq64 wz (some ⟨g, 0, none⟩) nc v.xs ∧ (w.heap.size ≤ g ∧ g ≠ w.heap.size) ∧ g < wz.heap.size) ∧ (L 8 = true → v48 = Value.pointer (some ⟨w.heap.size, k * 2, none⟩))) (by kernel_rfl) ?_ ?_ ?_
                · exact ⟨_, _, _, _, _, _, _, _, _, rfl, fun _ => hT2.below (Below.refl _ _).drew, nofun, f0, f1, hwsz, fun _ => hb2.out.drew, nofun, nofun, nofun, nofun, nofun, nofun, nofun, nofun, nofun⟩
                · intro L az wz iz hiz hni hI hdep hcl
                  obtain ⟨v40, v41, v42, v43, v44, v45, v46, v47, v48, rfl, hQ1, hQ2, hz0, hz1, hsz, hV, h0, h1, h2, h3, h4, h5, h6, h7, h8⟩ := hI
                  have hcase : iz = 0 ∨ iz = 1 ∨ iz = 2 ∨ iz = 3 ∨ iz = 4 ∨ iz = 5 ∨ iz = 6 ∨ iz = 7 ∨ iz = 8 ∨ iz = 9 := by
                    have hi2 : iz < 10 := hiz
                    omega
                  rcases hcase with rfl | rfl | rfl | rfl | rfl | rfl | rfl | rfl | rfl | rfl
                  · -- 0
                    refine wpOp_step rfl fun Kz hKz => ?_
                    go_simp
                    exact hKz _ _ ⟨_, _, _, _, _, _, _, _, _, rfl, fun e => hQ1 (add_nf e), fun e => hQ2 (add_ne e (by decide)), hz0, hz1, hsz, fun e => hV (add_nf e), fun _ => rfl, fun e => h1 (add_ne e (by decide)), fun e => h2 (add_ne e (by decide)), fun e => h3 (add_ne e (by decide)), fun e e2 => h4 (add_ne e (by decide)) (add_nf e2), fun e => h5 (add_ne e (by decide)), fun e => h6 (add_ne e (by decide)), fun e e2 => h7 (add_ne e (by decide)) (add_nf e2), fun e => h8 (add_ne e (by decide))⟩
                  · -- 1
                    refine wpOp_step rfl fun Kz hKz => ?_
                    go_simp
                    exact hKz _ _ ⟨_, _, _, _, _, _, _, _, _, rfl, fun e => hQ1 (add_nf e), fun e => hQ2 (add_ne e (by decide)), hz0, hz1, hsz, fun e => hV (add_nf e), fun e => h0 (add_ne e (by decide)), fun _ => rfl, fun e => h2 (add_ne e (by decide)), fun e => h3 (add_ne e (by decide)), fun e e2 => h4 (add_ne e (by decide)) (add_nf e2), fun e => h5 (add_ne e (by decide)), fun e => h6 (add_ne e (by decide)), fun e e2 => h7 (add_ne e (by decide)) (add_nf e2), fun e => h8 (add_ne e (by decide))⟩
                  · -- 2
                    refine wpOp_step rfl fun Kz hKz => ?_
                    go_simp
                    exact hKz _ _ ⟨_, _, _, _, _, _, _, _, _, rfl, fun e => hQ1 (add_nf e), fun e => hQ2 (add_ne e (by decide)), hz0, hz1, hsz, fun e => hV (add_nf e), fun e => h0 (add_ne e (by decide)), fun e => h1 (add_ne e (by decide)), fun _ => rfl, fun e => h3 (add_ne e (by decide)), fun e e2 => h4 (add_ne e (by decide)) (add_nf e2), fun e => h5 (add_ne e (by decide)), fun e => h6 (add_ne e (by decide)), fun e e2 => h7 (add_ne e (by decide)) (add_nf e2), fun e => h8 (add_ne e (by decide))⟩
                  · -- 3
                    have e2 := h2 (hdep 2 (by decide +kernel))
                    subst e2
                    refine wpOp_step rfl fun Kz hKz => ?_
                    go_simp
                    exact hKz _ _ ⟨_, _, _, _, _, _, _, _, _, rfl, fun e => hQ1 (add_nf e), fun e => hQ2 (add_ne e (by decide)), hz0, hz1, hsz, fun e => hV (add_nf e), fun e => h0 (add_ne e (by decide)), fun e => h1 (add_ne e (by decide)), fun e => h2 (add_ne e (by decide)), fun _ => rfl, fun e e2 => h4 (add_ne e (by decide)) (add_nf e2), fun e => h5 (add_ne e (by decide)), fun e => h6 (add_ne e (by decide)), fun e e2 => h7 (add_ne e (by decide)) (add_nf e2), fun e => h8 (add_ne e (by decide))⟩
                  · -- 4
                    have h9 : L 9 = false := by
                      cases e : L 9 with
                      | false => rfl
                      | true => have e2 := hcl 7 (hcl 9 e 7 (by decide +kernel)) 4 (by decide +kernel); rw [hni] at e2; cases e2
                    have e3 := h3 (hdep 3 (by decide +kernel))
                    subst e3
                    refine wpOp_step rfl fun Kz hKz => ?_
                    go_simp
                    go_at_call 76
                    refine (hcln.out _ (hV h9)).mono ?_
                    rintro e w1 ⟨g, c, rfl, hgs, hg0, hbq⟩
                    have hglt := hgs.lt (by omega)
                    go_simp
                    exact hKz _ _ ⟨_, _, _, _, _, _, _, _, _, rfl, fun _ => (hQ1 h9).below hbq, fun e => (by have e2 := add_ne e (by decide); rw [h9] at e2; cases e2), (hbq.cell (p := ⟨wr.heap.size, 0, none⟩) (World.block_lt_of_cell? _ _ hz0)).trans hz0, (hbq.cell (p := ⟨wr.heap.size, 1, none⟩) (World.block_lt_of_cell? _ _ hz1)).trans hz1, Nat.lt_of_lt_of_le hsz hbq.size, fun _ => chain_trans (hV h9) hbq, fun e => h0 (add_ne e (by decide)), fun e => h1 (add_ne e (by decide)), fun e => h2 (add_ne e (by decide)), fun e => h3 (add_ne e (by decide)), fun _ _ => ⟨g, c, rfl, hgs, ⟨by omega, by omega⟩, hglt⟩, fun e => h5 (add_ne e (by decide)), fun e => h6 (add_ne e (by decide)), fun e => (by have e2 := hcl 7 (add_ne e (by decide)) 4 (by decide +kernel); rw [hni] at e2; cases e2), fun e => h8 (add_ne e (by decide))⟩
                  · -- 5
                    refine wpOp_step rfl fun Kz hKz => ?_
                    go_simp
                    exact hKz _ _ ⟨_, _, _, _, _, _, _, _, _, rfl, fun e => hQ1 (add_nf e), fun e => hQ2 (add_ne e (by decide)), hz0, hz1, hsz, fun e => hV (add_nf e), fun e => h0 (add_ne e (by decide)), fun e => h1 (add_ne e (by decide)), fun e => h2 (add_ne e (by decide)), fun e => h3 (add_ne e (by decide)), fun e e2 => h4 (add_ne e (by decide)) (add_nf e2), fun _ => rfl, fun e => h6 (add_ne e (by decide)), fun e e2 => h7 (add_ne e (by decide)) (add_nf e2), fun e => h8 (add_ne e (by decide))⟩
                  · -- 6
                    have e5 := h5 (hdep 5 (by decide +kernel))
                    subst e5
                    refine wpOp_step rfl fun Kz hKz => ?_
                    go_simp
                    exact hKz _ _ ⟨_, _, _, _, _, _, _, _, _, rfl, fun e => hQ1 (add_nf e), fun e => hQ2 (add_ne e (by decide)), hz0, hz1, hsz, fun e => hV (add_nf e), fun e => h0 (add_ne e (by decide)), fun e => h1 (add_ne e (by decide)), fun e => h2 (add_ne e (by decide)), fun e => h3 (add_ne e (by decide)), fun e e2 => h4 (add_ne e (by decide)) (add_nf e2), fun e => h5 (add_ne e (by decide)), fun _ => rfl, fun e e2 => h7 (add_ne e (by decide)) (add_nf e2), fun e => h8 (add_ne e (by decide))⟩
                  · -- 7
                    have h9 : L 9 = false := by
                      cases e : L 9 with
                      | false => rfl
                      | true => have e2 := hcl 9 e 7 (by decide +kernel); rw [hni] at e2; cases e2
                    obtain ⟨g, c, e4, hgs, hg1, hg2⟩ := h4 (hdep 4 (by decide +kernel)) h9
                    subst e4
                    have e6 := h6 (hdep 6 (by decide +kernel))
                    subst e6
                    refine wpOp_step rfl fun Kz hKz => ?_
                    go_simp
                    exact hKz _ _ ⟨_, _, _, _, _, _, _, _, _, rfl, fun e => hQ1 (add_nf e), fun e => hQ2 (add_ne e (by decide)), hz0, hz1, hsz, fun e => hV (add_nf e), fun e => h0 (add_ne e (by decide)), fun e => h1 (add_ne e (by decide)), fun e => h2 (add_ne e (by decide)), fun e => h3 (add_ne e (by decide)), fun e e2 => h4 (add_ne e (by decide)) (add_nf e2), fun e => h5 (add_ne e (by decide)), fun e => h6 (add_ne e (by decide)), fun _ _ => ⟨g, c, rfl, hgs, hg1, hg2⟩, fun e => h8 (add_ne e (by decide))⟩
                  · -- 8
                    have e0 := h0 (hdep 0 (by decide +kernel))
                    subst e0
                    have e1 := h1 (hdep 1 (by decide +kernel))
                    subst e1
                    refine wpOp_step rfl fun Kz hKz => ?_
                    go_simp
                    exact hKz _ _ ⟨_, _, _, _, _, _, _, _, _, rfl, fun e => hQ1 (add_nf e), fun e => hQ2 (add_ne e (by decide)), hz0, hz1, hsz, fun e => hV (add_nf e), fun e => h0 (add_ne e (by decide)), fun e => h1 (add_ne e (by decide)), fun e => h2 (add_ne e (by decide)), fun e => h3 (add_ne e (by decide)), fun e e2 => h4 (add_ne e (by decide)) (add_nf e2), fun e => h5 (add_ne e (by decide)), fun e => h6 (add_ne e (by decide)), fun e e2 => h7 (add_ne e (by decide)) (add_nf e2), fun _ => rfl⟩
                  · -- 9
                    obtain ⟨g, c, e7, hgs, hg1, hg2⟩ := h7 (hdep 7 (by decide +kernel)) hni
                    subst e7
                    have hq := hQ1 hni
                    obtain ⟨⟨a0, ha0⟩, ⟨a1, ha1⟩, hfz⟩ := hq.cells hkl
                    have hst := hq.step (c := c) hkl hv.out hok1.out hva.out hg1 hg2 hgs
                    have hfz0 := hfz (k * 2)
                    have hfz1 := hfz (k * 2 + 1)
                    have e8 := h8 (hdep 8 (by decide +kernel))
                    subst e8
                    refine wpOp_step rfl fun Kz hKz => ?_
                    go_simp
                    exact hKz _ _ ⟨_, _, _, _, _, _, _, _, _, rfl, fun e => (by rw [add_self] at e; cases e), fun _ => hst, (((Kp.refl (fun j => j = w.heap.size) wz).setCell (p := ⟨w.heap.size, k * 2, none⟩) (.inl rfl) _).setCell (p := ⟨w.heap.size, k * 2 + 1, none⟩) (.inl rfl) _).cell hz0 hne2, (((Kp.refl (fun j => j = w.heap.size) wz).setCell (p := ⟨w.heap.size, k * 2, none⟩) (.inl rfl) _).setCell (p := ⟨w.heap.size, k * 2 + 1, none⟩) (.inl rfl) _).cell hz1 hne2, (by simpa using hsz), fun e => (by rw [add_self] at e; cases e), fun e => h0 (add_ne e (by decide)), fun e => h1 (add_ne e (by decide)), fun e => h2 (add_ne e (by decide)), fun e => h3 (add_ne e (by decide)), fun _ e => (by rw [add_self] at e; cases e), fun e => h5 (add_ne e (by decide)), fun e => h6 (add_ne e (by decide)), fun _ e => (by rw [add_self] at e; cases e), fun e => h8 (add_ne e (by decide))⟩
                · intro L az wz hI hL
                  obtain ⟨v40, v41, v42, v43, v44, v45, v46, v47, v48, rfl, hQ1, hQ2, hz0, hz1, hsz, hV, h0, h1, h2, h3, h4, h5, h6, h7, h8⟩ := hI
                  refine hK1 _ _ (Met.intro (hJ1 _ _ ?_))
                  (repeat apply Exists.intro)
                  refine ⟨?rel, rfl⟩
                  case rel => exact Lib.hid (hQ2 (hL 9 (by decide)))
              case rest =>
                have hS2 := hcut
                go_wp2_with fail
                go_roundw
                case rel => exact ⟨k + 1, by omega, by go_num, hS2, hA1⟩
                case measure => simp [intOf]; omega
        · have hnz : ((v.n : Int) != (nc : Int)) = true := by simp; omega
          rw [show decide (v.n = nc) = false from by simpa using hn] at hok
          have hl0 := hlno.out (by rw [hok]; rfl)
          replace hC := Lib.hid hC
          replace hok := Lib.hid hok
          replace hl0 := Lib.hid hl0
          replace hn := Lib.hid hn
          replace hTz := Lib.hid hTz
          replace hB2 := Lib.hid hB2
          replace hvs := Lib.hid hvs
          replace hN := Lib.hid hN
          go_upto_region 8 with (fail)
          change Code.wp _ _ _ _ (wr.alloc (.cells #[.slice v.p v.n v.cap, .int .i64 v.all] 58))
          rw [hv1.out]
          go_wp2_with fail
          go_ret2
          exact LimO.no hl0.out hB2.out
      · obtain rfl : k = len := by omega
        have hkz : ¬ (k : Int) < (k : Int) := by omega
        have hyes : limsOk ls k nc = true := limsOk_yes hlen.out fun i v hv => hA.out i v (by have := (List.getElem?_eq_some_iff.1 hv).1; rw [hlen.out] at this; exact this) hv
        have hdone : ∀ cL, LimO ls k nc w (.returned (.tuple #[.slice (some ⟨w.heap.size, 0, none⟩) k cL, .int .i64 0])) wr := fun cL => ⟨fun _ => ⟨_, cL, rfl, hS.out.done, hS.out.gge⟩, fun e => (by rw [hyes] at e; cases e), hS.out.blw⟩
        replace hyes := Lib.hid hyes
        replace hdone := Lib.hid hdone
        go_wp2_with fail
        go_ret2
        exact hdone.out _
  · have hz : ((len : Int) != (nm : Int)) = true := by simp; omega
    have hl0 : limsOk ls nm nc = false := by
      unfold limsOk
      rw [show decide (ls.length = nm) = false from by simp; omega, Bool.false_and]
    replace h := Lib.hid h
    replace hl0 := Lib.hid hl0
    replace hlen := Lib.hid hlen
    replace hne := Lib.hid hne
    go_enter Tryz.func49, Tryz.ntmps49
    go_wp2_with fail
    go_ret2
    exact LimO.no hl0.out (Below.refl _ _)
end Go.Proofs.YtiehbbhjpcnbnaaGreat
namespace Go.Proofs.YtiehbbhjpcnbnaaGreat
open Go.RowKit
set_option linter.unusedVariables false

/-- a guard that was just made -/
def newGM (l : LM) (cs : List Cur) (ls : List LV) : GM := (⟨l, cs, LimM ls, fun _ => false⟩ : GM).judge
/-- what New makes -/
structure MadeG (G' : Nat → Prop) (l : LM) (cs : List Cur) (ls : List LV) (lb : Nat) (gb b gL cL gF cF : Nat) (H S : Nat → Prop) (w w' : World) : Prop where
  gg : GG H S gb lb b gL cL gF cF (newGM l cs ls) w'
  sub : ∀ j, G' j → H j ∧ j ≠ gF
  sup : ∀ j, H j → G' j ∨ w.heap.size ≤ j
  ge : w.heap.size ≤ gF
  fresh : w.heap.size ≤ gb ∧ w.heap.size ≤ gL ∧ ∀ j, S j → w.heap.size ≤ j
def NewG (G' : Nat → Prop) (lb : Nat) (l : LM) (cs : List Cur) (ls : List LV) (w : World) (e : Ending) (w' : World) : Prop :=
  (chkT cs ≠ 0 → e = .returned (.tuple #[.pointer none, .int .i64 (chkT cs)]) ∧ Below w.heap.size w w') ∧
  (chkT cs = 0 → (cs.length ≠ l.nc ∨ limsOk ls l.nm l.nc = false) → e = .returned (.tuple #[.pointer none, .int .i64 1]) ∧ Below w.heap.size w w') ∧
  (chkT cs = 0 → cs.length = l.nc → limsOk ls l.nm l.nc = true → ∃ gb b gL cL gF cF H S, e = .returned (.tuple #[.pointer (some ⟨gb, 0, none⟩), .int .i64 0]) ∧ MadeG G' l cs ls lb gb b gL cL gF cF H S w w') ∧
  Kp (fun j => ¬ G' j) w w'
set_option maxHeartbeats 4000000 in
set_option maxRecDepth 100000 in
theorem newG_any {G' PF : Nat → Prop} (p : Option Addr) (len cap : Nat) (cs : List Cur) (lb : Nat) (l : LM) (q : Option Addr) (n c2 : Nat) (ls : List LV) (w : World) (hT : Tab w p len cs) (hL : PL PF w lb l) (hg : l.Good) (hls : LRow w q n ls)
    (hdis : ∀ j, j < w.heap.size → PF j → ¬ G' j) (hlt : ∀ j, G' j → j < w.heap.size) :
    Calls Tryz.prog 24 #[.slice p len cap, .pointer (some ⟨lb, 0, none⟩), .slice q n c2] w (NewG G' lb l cs ls w) := by
  have hW := wnew_any (cap := cap) w hT hL hg
  have hnm := hg.ok.nm
  have hnc := hg.ok.nc
  by_cases hc : chkT cs = 0
  · by_cases hl : cs.length = l.nc
    · -- the worths are made
      have hW1 : Calls Tryz.prog 48 #[.slice p len cap, .pointer (some ⟨lb, 0, none⟩)] w fun e w' => ∃ b, e = .returned (.tuple #[.pointer (some ⟨b, 0, none⟩), .int .i64 0]) ∧ WSt G' lb b l (WM.new cs l) w' ∧ Below w.heap.size w w' := hW.mono fun e w' ⟨_, _, h3, h4⟩ => by
        obtain ⟨b, e1, h5⟩ := h3 hc hl
        exact ⟨b, e1, WSt.made hL hg hdis hlt h5 h4, h4⟩
      have hZ : ∀ wv, Below w.heap.size w wv → Calls Tryz.prog 27 #[.pointer (some ⟨lb, 0, none⟩)] wv fun e w' => e = .returned (.tuple #[.int .i64 (l.nm : Int), .int .i64 (l.nc : Int)]) ∧ Below wv.heap.size wv w' := fun wv hb => by
        obtain ⟨gB, cB, hLv⟩ := hL
        exact (psize_any wv (hLv.below hb)).mono fun e w' ⟨h1, n1, h2⟩ => ⟨h1, by rw [h2]; exact below_drewN (Below.refl _ _) _⟩
      have hM : ∀ wv, Below w.heap.size w wv → Calls Tryz.prog 49 #[.slice q n c2, .int .i64 (l.nm : Int), .int .i64 (l.nc : Int)] wv (LimO ls l.nm l.nc wv) := fun wv hb => limitsOf_any q n c2 ls l.nm l.nc wv (hls.kept hb) hnm hnc
      cases hk : limsOk ls l.nm l.nc with
      | false =>
        have hno : ∀ w', Below w.heap.size w w' → NewG G' lb l cs ls w (.returned (.tuple #[.pointer none, .int .i64 1])) w' := fun w' hb => ⟨fun e => absurd hc e, fun _ _ => ⟨rfl, hb⟩, fun _ _ e => (by rw [hk] at e; cases e), Kp.of_below hb⟩
        replace hM : ∀ wv, Below w.heap.size w wv → Calls Tryz.prog 49 #[.slice q n c2, .int .i64 (l.nm : Int), .int .i64 (l.nc : Int)] wv fun e w' => e = .returned (.tuple #[.slice none 0 0, .int .i64 1]) ∧ Below wv.heap.size wv w' := fun wv hb => (hM wv hb).mono fun e w' ⟨_, h2, h3⟩ => ⟨h2 hk, h3⟩
        replace hW1 := Lib.hid hW1
        replace hZ := Lib.hid hZ
        replace hM := Lib.hid hM
        replace hno := Lib.hid hno
        replace hT := Lib.hid hT
        replace hL := Lib.hid hL
        replace hls := Lib.hid hls
        replace hk := Lib.hid hk
        replace hl := Lib.hid hl
        replace hc := Lib.hid hc
        clear hW
        go_enter Tryz.func24, Tryz.ntmps24
        go_upto_region 4 with (first | (go_at_call 48; (with_reducible refine hW1.out.mono ?_); rintro e w1 ⟨b, rfl, hS1, hb1⟩))
        have hZ1 := Lib.hid (hZ.out _ hb1)
        replace hb1 := Lib.hid hb1
        replace hS1 := Lib.hid hS1
        go_upto_region 5 with (first | (go_at_call 27; (with_reducible refine hZ1.out.mono ?_); rintro e w2 ⟨rfl, hb2⟩))
        have hb12 := hb1.out.trans (hb2.mono hb1.out.size)
        have hM2 := Lib.hid (hM.out _ hb12)
        replace hb2 := Lib.hid hb2
        replace hb12 := Lib.hid hb12
        go_wp2_with (first | (go_at_call 49; (with_reducible refine hM2.out.mono ?_); rintro e w3 ⟨rfl, hb3⟩; replace hb3 := Lib.hid hb3))
        go_ret2
        exact hno.out _ (hb12.out.trans (hb3.out.mono hb12.out.size))
      | true =>
        replace hM : ∀ wv, Below w.heap.size w wv → Calls Tryz.prog 49 #[.slice q n c2, .int .i64 (l.nm : Int), .int .i64 (l.nc : Int)] wv fun e w' => ∃ gL cL, e = .returned (.tuple #[.slice (some ⟨gL, 0, none⟩) l.nm cL, .int .i64 0]) ∧ LR (fun j => wv.heap.size ≤ j) w' gL l.nc l.nm (LimM ls) ∧ wv.heap.size ≤ gL ∧ Below wv.heap.size wv w' := fun wv hb => (hM wv hb).mono fun e w' ⟨h1, _, h3⟩ => by
          obtain ⟨gL, cL, e1, e2, e3⟩ := h1 hk
          exact ⟨gL, cL, e1, e2, e3, h3⟩
        have hmk := make_flags l.nm (by omega)
        -- the guard, before its flags are set
        have hGS : ∀ (b gL cL : Nat) (w1 w2 w3 : World), WSt G' lb b l (WM.new cs l) w1 → Below w.heap.size w w1 → Below w1.heap.size w1 w2 → LR (fun j => w2.heap.size ≤ j) w3 gL l.nc l.nm (LimM ls) → w2.heap.size ≤ gL → Below w2.heap.size w2 w3 →
            GS (fun j => G' j ∨ (w1.heap.size ≤ j ∧ j < w3.heap.size + 2)) (fun j => w2.heap.size ≤ j ∧ j < w3.heap.size) (w3.heap.size + 1) lb b gL cL w3.heap.size l.nm l (WM.new cs l) (LimM ls) (fun _ => false) ((w3.alloc (.cells (zf l.nm) 4)).alloc (.cells (gArr lb b gL cL w3.heap.size l.nm l.nm) 72)) := fun b gL cL w1 w2 w3 hS1 hb1 hb2 hLR hgL hb3 => by
          have hs2 := hb2.size
          have hs3 := hb3.size
          have hb34 : Below w3.heap.size w3 ((w3.alloc (.cells (zf l.nm) 4)).alloc (.cells (gArr lb b gL cL w3.heap.size l.nm l.nm) 72)) := ((Below.refl _ w3).alloc (Nat.le_refl _) _).alloc (by simp) _
          have hb14 : Below w1.heap.size w1 ((w3.alloc (.cells (zf l.nm) 4)).alloc (.cells (gArr lb b gL cL w3.heap.size l.nm l.nm) 72)) := (hb2.trans (hb3.mono hs2)).trans (hb34.mono (by omega))
          have hgl := hLR.lt
          refine ⟨hS1.more hb14 (fun j hj hjj => hjj.resolve_right (by omega)) (fun j hj => ?_), ?_, ?_, ?_, ⟨.inr ⟨by omega, by omega⟩, .inr ⟨by omega, by omega⟩, .inr ⟨by omega, by omega⟩⟩, fun j hj => ⟨.inr ⟨by omega, by omega⟩, by omega⟩, rfl, hl, fun a ha => row_out ha⟩
          · rcases hj with hj | hj
            · have := hS1.lt j hj; have := hb14.size; omega
            · simp; omega
          · have e := heap_alloc_new (w3.alloc (.cells (zf l.nm) 4)) (.cells (gArr lb b gL cL w3.heap.size l.nm l.nm) 72)
            simp only [World.size_alloc] at e
            exact e
          · show LR _ _ gL (WM.new cs l).cs.length l.nm (LimM ls)
            rw [show (WM.new cs l).cs.length = l.nc from hl]
            exact (hLR.weak (fun j hj hs => ⟨hs, hj⟩)).at hb34.size (hb34.block _ hgl) fun j hj _ => hb34.block j hj
          · refine ⟨zf l.nm, ?_, fun m hm => zf_get _ m hm⟩
            exact (Below.heap_alloc _ _ _ (by simp)).trans (heap_alloc_new w3 _)
        have hfin : ∀ (b gL cL : Nat) (w1 w2 w3 w4 : World), WSt G' lb b l (WM.new cs l) w1 → Below w.heap.size w w1 → Below w1.heap.size w1 w2 → w2.heap.size ≤ gL → Below w2.heap.size w2 w3 →
            GS (fun j => G' j ∨ (w1.heap.size ≤ j ∧ j < w3.heap.size + 2)) (fun j => w2.heap.size ≤ j ∧ j < w3.heap.size) (w3.heap.size + 1) lb b gL cL w3.heap.size l.nm l (WM.new cs l) (LimM ls) (fun k => !decide (failV cs l.nm l (LimM ls) (k : Int) [] = 0)) w4 →
            Kp (fun j => ¬ (G' j ∨ (w1.heap.size ≤ j ∧ j < w3.heap.size + 2)) ∨ j = w3.heap.size) ((w3.alloc (.cells (zf l.nm) 4)).alloc (.cells (gArr lb b gL cL w3.heap.size l.nm l.nm) 72)) w4 →
            NewG G' lb l cs ls w (.returned (.tuple #[.pointer (some ⟨w3.heap.size + 1, 0, none⟩), .int .i64 0])) w4 := fun b gL cL w1 w2 w3 w4 hS1 hb1 hb2 hgL hb3 hG hK => by
          have hs1 := hb1.size
          have hs2 := hb2.size
          have hs3 := hb3.size
          have hb04 : Below w.heap.size w ((w3.alloc (.cells (zf l.nm) 4)).alloc (.cells (gArr lb b gL cL w3.heap.size l.nm l.nm) 72)) := (hb1.trans ((hb2.trans (hb3.mono hs2)).mono hs1)).trans ((((Below.refl _ w3).alloc (Nat.le_refl _) _).alloc (by simp) _).mono (by omega))
          refine ⟨fun e => absurd hc e, fun _ e => ?_, fun _ _ _ => ⟨w3.heap.size + 1, b, gL, cL, w3.heap.size, l.nm, (fun j => G' j ∨ (w1.heap.size ≤ j ∧ j < w3.heap.size + 2)), (fun j => w2.heap.size ≤ j ∧ j < w3.heap.size), rfl, ⟨?_, fun j hj => ⟨.inl hj, (by have := hlt j hj; omega)⟩, fun j hj => hj.imp id fun e => (by omega), (by omega), ⟨by omega, by omega, fun j hj => by omega⟩⟩⟩, ?_⟩
          · rcases e with e | e
            · exact absurd hl e
            · rw [hk] at e; cases e
          · have e := flags_judge ⟨l, cs, LimM ls, fun _ => false⟩ hl
            dsimp only at e
            rw [e] at hG
            exact hG
          · refine (Kp.of_below hb04).trans ⟨hK.os, hK.tape, hK.output, hK.size, fun j hj hn => hK.block j hj fun e => ?_⟩
            rcases e with e | e
            · exact hn fun x => e (.inl x)
            · exact hn fun x => by have := hlt j x; omega
        replace hW1 := Lib.hid hW1
        replace hZ := Lib.hid hZ
        replace hM := Lib.hid hM
        replace hT := Lib.hid hT
        replace hL := Lib.hid hL
        replace hls := Lib.hid hls
        replace hk := Lib.hid hk
        replace hl := Lib.hid hl
        replace hc := Lib.hid hc
        replace hGS := Lib.hid hGS
        replace hfin := Lib.hid hfin
        clear hW
        go_enter Tryz.func24, Tryz.ntmps24
        go_upto_region 4 with (first | (go_at_call 48; (with_reducible refine hW1.out.mono ?_); rintro e w1 ⟨b, rfl, hS1, hb1⟩))
        have hZ1 := Lib.hid (hZ.out _ hb1)
        replace hb1 := Lib.hid hb1
        replace hS1 := Lib.hid hS1
        go_upto_region 5 with (first | (go_at_call 27; (with_reducible refine hZ1.out.mono ?_); rintro e w2 ⟨rfl, hb2⟩))
        have hb12 := hb1.out.trans (hb2.mono hb1.out.size)
        have hM2 := Lib.hid (hM.out _ hb12)
        replace hb2 := Lib.hid hb2
        replace hb12 := Lib.hid hb12
        go_upto_region 8 with (first | (go_at_call 49; (with_reducible refine hM2.out.mono ?_); rintro e w3 ⟨gL, cL, rfl, hLR, hgL, hb3⟩))
        have hG4 := hGS.out b gL cL w1 w2 w3 hS1.out hb1.out hb2.out hLR hgL hb3
        have hA4 := flagAll_any _ hG4
        have hfin4 := hfin.out b gL cL w1 w2 w3
        unfold gArr at hA4 hfin4
        generalize hv4 : (w3.alloc (.cells (zf l.nm) 4)).alloc (.cells #[.pointer (some ⟨lb, 0, none⟩), .pointer (some ⟨b, 0, none⟩), .slice (some ⟨gL, 0, none⟩) l.nm cL, .slice (some ⟨w3.heap.size, 0, none⟩) l.nm l.nm] 72) = w4 at *
        replace hA4 := Lib.hid hA4
        replace hG4 := Lib.hid hG4
        replace hfin4 := Lib.hid hfin4
        replace hLR := Lib.hid hLR
        replace hb3 := Lib.hid hb3
        replace hgL := Lib.hid hgL
        replace hv4 := Lib.hid hv4
        go_upto_region 9 with (fail)
        rw [hv4.out]
        go_wp2_with (first | (go_at_call 50; (with_reducible refine hA4.out.mono ?_); rintro e w5 ⟨rfl, hG5, hK5⟩; replace hG5 := Lib.hid hG5; replace hK5 := Lib.hid hK5))
        go_ret2
        exact hfin4.out _ hS1.out hb1.out hb2.out hgL.out hb3.out hG5.out hK5.out
    · have hno : ∀ w', Below w.heap.size w w' → NewG G' lb l cs ls w (.returned (.tuple #[.pointer none, .int .i64 1])) w' := fun w' hb => ⟨fun e => absurd hc e, fun _ _ => ⟨rfl, hb⟩, fun _ e => absurd e hl, Kp.of_below hb⟩
      have hW1 : Calls Tryz.prog 48 #[.slice p len cap, .pointer (some ⟨lb, 0, none⟩)] w fun e w' => e = .returned (.tuple #[.pointer none, .int .i64 1]) ∧ Below w.heap.size w w' := hW.mono fun e w' ⟨_, h2, _, h4⟩ => ⟨h2 hc hl, h4⟩
      replace hW1 := Lib.hid hW1
      replace hno := Lib.hid hno
      replace hT := Lib.hid hT
      replace hL := Lib.hid hL
      replace hls := Lib.hid hls
      replace hl := Lib.hid hl
      replace hc := Lib.hid hc
      clear hW
      go_enter Tryz.func24, Tryz.ntmps24
      go_wp2_with (first | (go_at_call 48; (with_reducible refine hW1.out.mono ?_); rintro e w1 ⟨rfl, hb1⟩; replace hb1 := Lib.hid hb1))
      go_ret2
      exact hno.out _ hb1.out
  · have hno : ∀ w', Below w.heap.size w w' → NewG G' lb l cs ls w (.returned (.tuple #[.pointer none, .int .i64 (chkT cs)])) w' := fun w' hb => ⟨fun _ => ⟨rfl, hb⟩, fun e => absurd e hc, fun e => absurd e hc, Kp.of_below hb⟩
    have hW1 : Calls Tryz.prog 48 #[.slice p len cap, .pointer (some ⟨lb, 0, none⟩)] w fun e w' => e = .returned (.tuple #[.pointer none, .int .i64 (chkT cs)]) ∧ Below w.heap.size w w' := hW.mono fun e w' ⟨h1, _, _, h4⟩ => ⟨h1 hc, h4⟩
    obtain ⟨X, hX⟩ : ∃ X, chkT cs = X := ⟨_, rfl⟩
    rw [hX] at hW1 hno hc
    have hz : (X != 0) = true := by simpa using hc
    replace hW1 := Lib.hid hW1
    replace hno := Lib.hid hno
    replace hT := Lib.hid hT
    replace hL := Lib.hid hL
    replace hls := Lib.hid hls
    replace hc := Lib.hid hc
    replace hX := Lib.hid hX
    clear hW
    go_enter Tryz.func24, Tryz.ntmps24
    go_wp2_with (first | (go_at_call 48; (with_reducible refine hW1.out.mono ?_); rintro e w1 ⟨rfl, hb1⟩; replace hb1 := Lib.hid hb1))
    go_ret2
    exact hno.out _ hb1.out
end Go.Proofs.YtiehbbhjpcnbnaaGreat
