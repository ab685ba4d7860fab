/- The contract of Read. -/
import Derived.Test.YtflbggehgjllcaaDoorDR
import Derived.Test.YtflbggehgjllcaaDoorDS
import Derived.Test.YtflbggehgjllcaaDoorDP
import Derived.Laws.CopyOwn
namespace Go.Proofs.YtflbggehgjllcaaDoor
open Go.RowKit Go.Maps
set_option linter.unusedVariables false

/-- so many entries are read behind those that are known -/
def goR : Nat → List UInt8 → Bk → Option Bk
  | 0, _, b => some b
  | k + 1, s, b => if b.fits (eOf s) = true then goR k (s.drop 28) { b with l := b.l ++ [eOf s] } else none
def endR (b : Bk) : Option Bk := if isUp (srt (nths b.l)) = true then some { b with many := (nths b.l).length } else none
def readB (s : List UInt8) (mem cur : Int) : Option Bk :=
  if newR mem cur = false ∨ s.length < 2 then none
  else if 200 < vls (s.take 2) ∨ s.length ≠ 2 + vls (s.take 2) * 28 then none
  else (goR (vls (s.take 2)) (s.drop 2) ⟨mem, cur, [], 0⟩).bind endR
def textLen : Value → Nat
  | .string s => s.size
  | _ => 0
theorem tl_empty (s : ByteArray) : s.toList.isEmpty = (bl s).isEmpty := by
  rw [ByteArray.toList_eq]
  unfold bl
  simp
/-- what Read leaves -/
structure RdP (w : World) (r : Option Bk) (e : Ending) (w' : World) : Prop where
  bl : Below w.heap.size w w'
  no : r = none → e = .returned (.tuple #[.pointer none, .int .i64 2])
  yes : ∀ b, r = some b → ∃ gb, e = .returned (.tuple #[.pointer (some ⟨gb, 0, none⟩), .int .i64 0]) ∧ PB (fun j => w.heap.size ≤ j) w' gb b ∧ w.heap.size ≤ gb
theorem fld_in (l : List UInt8) : ∀ k, k < 10 → In64 (fld l k) := fun k hk => by
  unfold fld In64
  have h1 := vls_lt ((l.drop (off k)).take (sz k))
  have h2 : (256 : Nat) ^ ((l.drop (off k)).take (sz k)).length ≤ 256 ^ 8 := Nat.pow_le_pow_right (by omega) (by rw [List.length_take]; have := sz_le k hk; omega)
  have h3 : (256 : Nat) ^ 8 = 18446744073709551616 := by decide
  exact toI_bnd _ (by omega)
/-- behind some entries -/
structure RL (w : World) (gb : Nat) (T : Option Bk) (k : Nat) (r : ByteArray) (bk : Bk) (wr : World) : Prop where
  size : r.size = 28 * k
  togo : goR k (bl r) bk = T
  pb : PB (fun j => w.heap.size ≤ j) wr gb bk
  len : bk.l.length + k ≤ 200
  many : bk.many = 0
  bl : Below w.heap.size w wr
theorem kp_below {B : Nat} {w w' : World} (h : Kp (fun j => B ≤ j) w w') (hB : B ≤ w.heap.size) : Below B w w' := h.below hB fun j hj e => by omega
set_option maxHeartbeats 4000000 in
set_option maxRecDepth 100000 in
theorem read_short (s : ByteArray) (mem cur : Int) (w : World) (h : newR mem cur = false ∨ (bl s).length < 2) :
    Calls Tryd.prog 16 #[.string s, .int .i64 mem, .int .i64 cur] w (RdP w (readB (bl s) mem cur)) := by
  have e : readB (bl s) mem cur = none := by unfold readB; rw [if_pos h]
  rw [e]
  rcases hn : newR mem cur with _ | _
  · have c := new_no mem cur w hn
    clear h e hn
    go_enter Tryd.func16, Tryd.ntmps16
    go_wp2_with (go_at_call 8; (with_reducible refine c.mono ?_); rintro e w' ⟨rfl, rfl⟩)
    go_ret2
    exact ⟨Below.refl _ _, fun _ => rfl, fun b e => by cases e⟩
  · have hl : (bl s).length < 2 := h.resolve_left (by rw [hn]; simp)
    rw [bl_length] at hl
    have hz : (s.size : Int) < 2 := by omega
    have c := new_yes (fun _ => True) mem cur w hn (fun _ _ => trivial)
    clear h e hn hl
    go_enter Tryd.func16, Tryd.ntmps16
    go_wp2_with (go_at_call 8; (with_reducible refine c.mono ?_); rintro e w' ⟨gb, rfl, hP, hb, hgb⟩)
    go_ret2
    exact ⟨hb, fun _ => rfl, fun b e => by cases e⟩
set_option maxHeartbeats 4000000 in
set_option maxRecDepth 100000 in
theorem read_bad (s : ByteArray) (mem cur : Int) (w : World) (hn : newR mem cur = true) (h2 : 2 ≤ (bl s).length) (hsz : s.size ≤ 100000) (hbad : 200 < vls ((bl s).take 2) ∨ (bl s).length ≠ 2 + vls ((bl s).take 2) * 28) :
    Calls Tryd.prog 16 #[.string s, .int .i64 mem, .int .i64 cur] w (RdP w (readB (bl s) mem cur)) := by
  have e : readB (bl s) mem cur = none := by unfold readB; rw [if_neg (by rw [hn]; simp; omega), if_pos hbad]
  rw [e]
  have hc := vls_lt ((bl s).take 2)
  have hbl := bl_length s
  have hc2 : ((bl s).take 2).length = 2 := by rw [List.length_take]; omega
  rw [hc2] at hc
  have htk : ∀ w1, Calls Tryd.prog 37 #[.string s, .int .i64 2] w1 fun e w' => e = .returned (.tuple #[.int .i64 (toI (vls ((bl s).take 2))), .string (s.extract 2 s.size)]) ∧ ∃ nq, w' = w1.drewN nq := fun w1 => take_any s 2 w1 (by omega) (by omega) (by omega)
  have hto : toI (vls ((bl s).take 2)) = ((vls ((bl s).take 2) : Nat) : Int) := by unfold toI; rw [if_pos (by omega)]
  rw [hto] at htk
  have hts := fun w1 => textSize_any (vls ((bl s).take 2)) w1 (by omega)
  have c8 := new_yes (fun j => w.heap.size ≤ j) mem cur w hn (fun i hi => hi)
  have hz2 : ¬ (s.size : Int) < 2 := by omega
  rw [hbl] at hbad
  generalize vls ((bl s).take 2) = c at *
  generalize s.extract 2 s.size = r at *
  obtain ⟨N, hN⟩ : ∃ N, N = 2 + c * 28 := ⟨_, rfl⟩
  rw [← hN] at hts hbad
  replace hN := Lib.hid hN
  replace htk := Lib.hid htk
  replace hts := Lib.hid hts
  clear hto hc2 e hn h2 hc
  by_cases h200 : 200 < c
  · have hq : (200 : Int) < (c : Int) := by omega
    clear hbad
    go_enter Tryd.func16, Tryd.ntmps16
    go_wp2_with (first | (go_at_call 8; (with_reducible refine c8.mono ?_); rintro e w1 ⟨gb, rfl, hP, hb, hgb⟩; replace hP := Lib.hid hP) | (go_at_call 37; (with_reducible refine (htk.out _).mono ?_); rintro e w2 ⟨rfl, n, rfl⟩))
    go_ret2
    exact ⟨⟨hb.os, hb.tape, hb.output, hb.size, hb.block⟩, fun _ => rfl, fun b e => by cases e⟩
  · have hq : ¬ (200 : Int) < (c : Int) := by omega
    have hne : ((s.size : Int) != (N : Int)) = true := by simp; omega
    have hne2 : (s.size != N) = true := by simp; omega
    clear hbad
    go_enter Tryd.func16, Tryd.ntmps16
    go_wp2_with (first | (go_at_call 8; (with_reducible refine c8.mono ?_); rintro e w1 ⟨gb, rfl, hP, hb, hgb⟩; replace hP := Lib.hid hP) | (go_at_call 37; (with_reducible refine (htk.out _).mono ?_); rintro e w2 ⟨rfl, n, rfl⟩) | (go_at_call 30; (with_reducible refine (hts.out _).mono ?_); rintro e w3 ⟨rfl, rfl⟩))
    go_ret2
    exact ⟨⟨hb.os, hb.tape, hb.output, hb.size, hb.block⟩, fun _ => rfl, fun b e => by cases e⟩
set_option maxHeartbeats 4000000 in
set_option maxRecDepth 100000 in
theorem read_main (s : ByteArray) (mem cur : Int) (w : World) (hZ : SZ w) (hn : newR mem cur = true) (h2 : 2 ≤ (bl s).length) (hsz : s.size ≤ 100000) (h200 : ¬ 200 < vls ((bl s).take 2)) (hgood : (bl s).length = 2 + vls ((bl s).take 2) * 28) :
    Calls Tryd.prog 16 #[.string s, .int .i64 mem, .int .i64 cur] w (RdP w (readB (bl s) mem cur)) := by
  have e : readB (bl s) mem cur = (goR (vls ((bl s).take 2)) ((bl s).drop 2) ⟨mem, cur, [], 0⟩).bind endR := by unfold readB; rw [if_neg (by rw [hn]; simp; omega), if_neg (by omega)]
  rw [e]
  obtain ⟨T, hT⟩ : ∃ T, goR (vls ((bl s).take 2)) ((bl s).drop 2) ⟨mem, cur, [], 0⟩ = T := ⟨_, rfl⟩
  rw [hT]
  have hc := vls_lt ((bl s).take 2)
  have hbl := bl_length s
  have hc2 : ((bl s).take 2).length = 2 := by rw [List.length_take]; omega
  rw [hc2] at hc
  have htk : ∀ w1, Calls Tryd.prog 37 #[.string s, .int .i64 2] w1 fun e w' => e = .returned (.tuple #[.int .i64 (toI (vls ((bl s).take 2))), .string (s.extract 2 s.size)]) ∧ ∃ nq, w' = w1.drewN nq := fun w1 => take_any s 2 w1 (by omega) (by omega) (by omega)
  have hto : toI (vls ((bl s).take 2)) = ((vls ((bl s).take 2) : Nat) : Int) := by unfold toI; rw [if_pos (by omega)]
  rw [hto] at htk
  have hts := fun w1 => textSize_any (vls ((bl s).take 2)) w1 (by omega)
  have c8 := new_yes (fun j => w.heap.size ≤ j) mem cur w hn (fun i hi => hi)
  have hz2 : ¬ (s.size : Int) < 2 := by omega
  have hrd := bl_drop s 2
  rw [← hrd] at hT
  have hrl : (s.extract 2 s.size).size = 28 * vls ((bl s).take 2) := by rw [← bl_length, hrd, List.length_drop]; omega
  rw [hbl] at hgood
  generalize vls ((bl s).take 2) = c at *
  generalize s.extract 2 s.size = r0 at *
  obtain ⟨N, hN⟩ : ∃ N, N = 2 + c * 28 := ⟨_, rfl⟩
  rw [← hN] at hts hgood
  have hne : ((s.size : Int) != (N : Int)) = false := by simp; omega
  have hne2 : (s.size != N) = false := by simp; omega
  have hq : ¬ (200 : Int) < (c : Int) := by omega
  have h0 : ∀ gb w1, PB (fun j => w.heap.size ≤ j) w1 gb ⟨mem, cur, [], 0⟩ → Below w.heap.size w w1 → RL w gb T c r0 ⟨mem, cur, [], 0⟩ w1 := fun gb w1 hP hb => ⟨hrl, hT, hP, by simp; omega, rfl, hb⟩
  replace hN := Lib.hid hN
  replace htk := Lib.hid htk
  replace hts := Lib.hid hts
  replace hZ := Lib.hid hZ
  replace h0 := Lib.hid h0
  replace hgood := Lib.hid hgood
  clear hto hc2 e hn h2 hc hT hrl hrd
  go_enter Tryd.func16, Tryd.ntmps16
  go_wp2_with (first | (go_at_call 8; (with_reducible refine c8.mono ?_); rintro e w1 ⟨gb, rfl, hP, hb, hgb⟩; replace hP := Lib.hid hP; replace hb := Lib.hid hb) | (go_at_call 37; (with_reducible refine (htk.out _).mono ?_); rintro e w2 ⟨rfl, n, rfl⟩) | (go_at_call 30; (with_reducible refine (hts.out _).mono ?_); rintro e w3 ⟨rfl, rfl⟩))
  have h1 := Lib.hid (h0.out gb w1 hP.out hb.out)
  go_loopw [11] (fun v wr => ∃ (k : Nat) (r : ByteArray), k ≤ 200 ∧ r.size ≤ 5600 ∧ v = .string r ∧ ∃ bk, Hid (RL w gb T k r bk wr)) (fun v _ => textLen v)
  case atStart => exact ⟨c, r0, by omega, by have := h1.out.size; omega, rfl, _, Lib.hid ((fun h => ⟨h.size, h.togo, (PB.live gb _).kept h.pb ((Kp.refl (fun _ => False) _).drewN _) (fun _ _ _ h => h), h.len, h.many, ⟨h.bl.os, h.bl.tape, h.bl.output, h.bl.size, h.bl.block⟩⟩ : RL w gb T c r0 ⟨mem, cur, [], 0⟩ w1 → RL w gb T c r0 ⟨mem, cur, [], 0⟩ (w1.drewN n)) h1.out)⟩
  case round =>
    obtain ⟨k, r, hk, hrz, rfl, bk, hS⟩ := hrel
    rcases k with _ | k
    · have hr0 : r.size = 0 := by have := hS.out.size; omega
      have hem : r.toList.isEmpty = true := by
        rw [tl_empty]
        have := bl_length r
        rw [List.isEmpty_iff]
        exact List.eq_nil_of_length_eq_zero (by omega)
      have hrn : r.toList = [] := by simpa using hem
      have htog : T = some bk := hS.out.togo.symm
      have ccm := countMatched_any hS.out.pb (by have := hS.out.len; omega)
      have hfin : ∀ e w', CM (fun j => w.heap.size ≤ j) wr gb bk e w' → Below w.heap.size w w' := fun e w' h => hS.out.bl.trans (kp_below h.kp hS.out.bl.size)
      rcases hu : isUp (srt (nths bk.l)) with _ | _
      · have ccm2 : Calls Tryd.prog 41 #[.pointer (some ⟨gb, 0, none⟩)] wr fun e w' => e = .returned (.bool false) ∧ Below w.heap.size w w' := ccm.mono fun e w' h => ⟨by rw [h.ans, hu], hfin e w' h⟩
        have hno : T.bind endR = none := by rw [htog]; show endR bk = none; unfold endR; rw [hu]; rfl
        replace hno := Lib.hid hno
        replace ccm2 := Lib.hid ccm2
        clear ccm hfin htog
        go_wp2_with (go_at_call 41; (with_reducible refine ccm2.out.mono ?_); rintro e w5 ⟨rfl, hb5⟩)
        go_ret2
        exact ⟨hb5, (fun _ => rfl), (fun b e => by rw [hno.out] at e; cases e)⟩
      · have ccm2 : Calls Tryd.prog 41 #[.pointer (some ⟨gb, 0, none⟩)] wr fun e w' => e = .returned (.bool true) ∧ Below w.heap.size w w' ∧ PB (fun j => w.heap.size ≤ j) w' gb { bk with many := (nths bk.l).length } := ccm.mono fun e w' h => ⟨by rw [h.ans, hu], hfin e w' h, h.yes hu⟩
        have hyes : T.bind endR = some { bk with many := (nths bk.l).length } := by rw [htog]; show endR bk = _; unfold endR; rw [hu]; rfl
        replace hyes := Lib.hid hyes
        replace ccm2 := Lib.hid ccm2
        clear ccm hfin htog
        go_wp2_with (go_at_call 41; (with_reducible refine ccm2.out.mono ?_); rintro e w5 ⟨rfl, hb5, hP5⟩)
        go_ret2
        exact ⟨hb5, (fun e => by rw [hyes.out] at e; cases e), fun b e => ⟨gb, rfl, (by rw [hyes.out] at e; injection e with e; rw [← e]; exact hP5), hgb⟩⟩
    · have hrs : 28 ≤ r.size := by have := hS.out.size; omega
      have hem : r.toList.isEmpty = false := by
        rw [tl_empty]
        have := bl_length r
        cases h : bl r with
        | nil => rw [h] at this; simp at this; omega
        | cons a b => rfl
      have hrn : ¬ r.toList = [] := by intro e; rw [e] at hem; simp at hem
      have cte : ∀ o, Calls Tryd.prog 38 #[.string r] (wr.alloc o) fun e w' => ∃ r2, e = .returned (.tuple #[(eOf (bl r)).val, .string r2]) ∧ bl r2 = (bl r).drop 28 ∧ Below (wr.alloc o).heap.size (wr.alloc o) w' := fun o => takeEntry_any r (wr.alloc o) hrs (by omega) ((hZ.out.below hS.out.bl).below ((Below.refl _ _).alloc (Nat.le_refl _) _))
      have hid : In64 (eOf (bl r)).d.id := fld_in (bl r) 0 (by omega)
      have hstep : ∀ w', Below wr.heap.size wr w' → PB (fun j => w.heap.size ≤ j) w' gb bk ∧ Below w.heap.size w w' := fun w' hb => ⟨below_pb hS.out.pb hb, hS.out.bl.trans (hb.mono hS.out.bl.size)⟩
      have hle : bk.l.length ≤ 199 := by have := hS.out.len; omega
      have htg : (if bk.fits (eOf (bl r)) = true then goR k ((bl r).drop 28) { bk with l := bk.l ++ [eOf (bl r)] } else none) = T := hS.out.togo
      have hwl := hS.out.bl.size
      have hmy := hS.out.many
      have hrk := hS.out.size
      generalize hx : eOf (bl r) = x at *
      replace hx := True.intro
      replace hwl := Lib.hid hwl
      replace hmy := Lib.hid hmy
      replace hrk := Lib.hid hrk
      have hfits : ∀ w', Below wr.heap.size wr w' → Calls Tryd.prog 39 #[.pointer (some ⟨gb, 0, none⟩), x.val] w' fun e w2 => e = .returned (.bool (bk.fits x)) ∧ Below w'.heap.size w' w2 := fun w' hb => fits_any (hstep w' hb).1 x hid (by omega)
      have hrow : ∀ w3, Below (wr.alloc (.cells #[.int .i64 0, .int .i64 0, .int .i64 0, .int .i64 0, .int .i64 0, .int .i64 0, .int .i64 0, .int .i64 0, .int .i64 0, .int .i64 0] 65)).heap.size (wr.alloc (.cells #[.int .i64 0, .int .i64 0, .int .i64 0, .int .i64 0, .int .i64 0, .int .i64 0, .int .i64 0, .int .i64 0, .int .i64 0, .int .i64 0] 65)) w3 → w3.heap[wr.heap.size]? = some (.cells #[.int .i64 0, .int .i64 0, .int .i64 0, .int .i64 0, .int .i64 0, .int .i64 0, .int .i64 0, .int .i64 0, .int .i64 0, .int .i64 0] 65 (0, 0)) := fun w3 hb => (hb.block _ (by simp)).trans (heap_alloc_new wr _)
      have hbel : ∀ w3 (cs : Array Value) o, Below (wr.alloc o).heap.size (wr.alloc o) w3 → Below wr.heap.size wr (w3.setRow wr.heap.size cs) := fun w3 cs o hb => below_setRow (((Below.refl _ _).alloc (Nat.le_refl _) o).trans (hb.mono (by simp))) (Nat.le_refl _) _
      unfold En.val at cte hfits
      replace cte := Lib.hid cte
      replace hid := Lib.hid hid
      replace hstep := Lib.hid hstep
      replace hrow := Lib.hid hrow
      replace hbel := Lib.hid hbel
      rcases hf : bk.fits x with _ | _
      · rw [hf] at htg hfits
        have hT0 : Hid (T.bind endR = none) := Lib.hid (by rw [← htg]; rfl)
        clear htg
        replace hfits := Lib.hid hfits
        go_wp2_with (first | (go_at_call 38; (with_reducible refine (cte.out _).mono ?_); rintro e w3 ⟨r2, rfl, hr2, hb3⟩; have hrow3 := Lib.hid (hrow.out w3 hb3); have hbel3 := Lib.hid (hbel.out w3 #[.int .i64 x.d.id, .int .i64 x.d.a, .int .i64 x.d.b, .int .i64 x.d.sc, .int .i64 x.d.bc, .int .i64 x.d.s, .int .i64 x.d.t, .int .i64 x.st, .int .i64 x.ask, .int .i64 x.nth] _ hb3); replace hr2 := Lib.hid hr2; clear hb3) | (refine wpList_store_row rfl 65 _ _ rfl wr.heap.size _ rfl rfl 65 _ hrow3.out (by kernel_rfl) (by rfl) (by simp [Value.oneCell']) ?_; have hrw := setRow_heap w3 wr.heap.size _ #[.int .i64 x.d.id, .int .i64 x.d.a, .int .i64 x.d.b, .int .i64 x.d.sc, .int .i64 x.d.bc, .int .i64 x.d.s, .int .i64 x.d.t, .int .i64 x.st, .int .i64 x.ask, .int .i64 x.nth] 65 (0, 0) hrow3.out; have d0 := obj_cell hrw (i := 0) rfl; have d1 := obj_cell hrw (i := 1) rfl; have d2 := obj_cell hrw (i := 2) rfl; have d3 := obj_cell hrw (i := 3) rfl; have d4 := obj_cell hrw (i := 4) rfl; have d5 := obj_cell hrw (i := 5) rfl; have d6 := obj_cell hrw (i := 6) rfl; have d7 := obj_cell hrw (i := 7) rfl; have d8 := obj_cell hrw (i := 8) rfl; have d9 := obj_cell hrw (i := 9) rfl; replace hrw := Lib.hid hrw; clear hrow3; generalize w3.setRow _ _ = w4 at *) | (go_at_call 39; (with_reducible refine (hfits.out _ hbel3.out).mono ?_); rintro e w5 ⟨rfl, hb5⟩))
        go_ret2
        exact ⟨((hstep.out _ hbel3.out).2).trans (hb5.mono (hstep.out _ hbel3.out).2.size), (fun _ => rfl), (fun b e => by rw [hT0.out] at e; cases e)⟩
      · rw [hf] at htg hfits
        have hfx : atL bk.l x.d.id = none := by
          have : (mayB x.d bk.mem bk.cur && (atL bk.l x.d.id).isNone && x.may) = true := hf
          simp only [Bool.and_eq_true] at this
          simpa using this.1.2
        have htg2 : goR k ((bl r).drop 28) { bk with l := bk.l ++ [x] } = T := htg
        have hadd : ∀ w', Below wr.heap.size wr w' → Calls Tryd.prog 40 #[.pointer (some ⟨gb, 0, none⟩), x.val] w' fun e w2 => e = .returned (.tuple #[]) ∧ PB (fun j => w.heap.size ≤ j) w2 gb { bk with l := bk.l ++ [x] } ∧ Kp (fun j => w.heap.size ≤ j) w' w2 := fun w' hb =>
          add_any (hstep.out w' hb).1 x hid.out hfx (by omega) fun i hi => by have := (hstep.out w' hb).2.size; omega
        have hnext : ∀ r2 w', bl r2 = (bl r).drop 28 → PB (fun j => w.heap.size ≤ j) w' gb { bk with l := bk.l ++ [x] } → Below w.heap.size w w' → RL w gb T k r2 { bk with l := bk.l ++ [x] } w' := fun r2 w' h1 h2 h3 => by
          have hs2 : r2.size = 28 * k := by have := hrk.out; have h5 := bl_length r2; have h6 := bl_length r; rw [← h5, h1, List.length_drop, h6]; omega
          exact ⟨hs2, by rw [h1]; exact htg2, h2, (by have := hS.out.len; simp; omega), hmy.out, h3⟩
        unfold En.val at hadd
        clear htg htg2 hfx
        replace hfits := Lib.hid hfits
        replace hadd := Lib.hid hadd
        replace hnext := Lib.hid hnext
        go_wp2_with (first | (go_at_call 38; (with_reducible refine (cte.out _).mono ?_); rintro e w3 ⟨r2, rfl, hr2, hb3⟩; have hrow3 := Lib.hid (hrow.out w3 hb3); have hbel3 := Lib.hid (hbel.out w3 #[.int .i64 x.d.id, .int .i64 x.d.a, .int .i64 x.d.b, .int .i64 x.d.sc, .int .i64 x.d.bc, .int .i64 x.d.s, .int .i64 x.d.t, .int .i64 x.st, .int .i64 x.ask, .int .i64 x.nth] _ hb3); replace hr2 := Lib.hid hr2; clear hb3) | (refine wpList_store_row rfl 65 _ _ rfl wr.heap.size _ rfl rfl 65 _ hrow3.out (by kernel_rfl) (by rfl) (by simp [Value.oneCell']) ?_; have hrw := setRow_heap w3 wr.heap.size _ #[.int .i64 x.d.id, .int .i64 x.d.a, .int .i64 x.d.b, .int .i64 x.d.sc, .int .i64 x.d.bc, .int .i64 x.d.s, .int .i64 x.d.t, .int .i64 x.st, .int .i64 x.ask, .int .i64 x.nth] 65 (0, 0) hrow3.out; have d0 := obj_cell hrw (i := 0) rfl; have d1 := obj_cell hrw (i := 1) rfl; have d2 := obj_cell hrw (i := 2) rfl; have d3 := obj_cell hrw (i := 3) rfl; have d4 := obj_cell hrw (i := 4) rfl; have d5 := obj_cell hrw (i := 5) rfl; have d6 := obj_cell hrw (i := 6) rfl; have d7 := obj_cell hrw (i := 7) rfl; have d8 := obj_cell hrw (i := 8) rfl; have d9 := obj_cell hrw (i := 9) rfl; replace hrw := Lib.hid hrw; clear hrow3; generalize w3.setRow _ _ = w4 at *) | (go_at_call 39; (with_reducible refine (hfits.out _ hbel3.out).mono ?_); rintro e w5 ⟨rfl, hb5⟩; obtain ⟨hc5, hf5⟩ := bcellD hb5; have hwl4 : wr.heap.size < w4.heap.size := World.block_lt_of_cell? w4 ⟨wr.heap.size, 0, none⟩ d0; have hbel5 := Lib.hid (hbel3.out.trans (hb5.mono hbel3.out.size)); clear hb5) | (go_at_call 40; (with_reducible refine (hadd.out _ hbel5.out).mono ?_); rintro e w6 ⟨rfl, hP6, hK6⟩; have hb6 := Lib.hid ((hstep.out _ hbel5.out).2.trans (kp_below hK6 (hstep.out _ hbel5.out).2.size)); replace hP6 := Lib.hid hP6; clear hK6))
        have hn6 := Lib.hid (hnext.out r2 w6 hr2.out hP6.out hb6.out)
        have hrs2 : r2.size < r.size := by have := hn6.out.size; have := hrk.out; omega
        go_roundw
        case rel => exact ⟨k, r2, by omega, by omega, rfl, _, hn6⟩
        case measure => simp [textLen]; omega
theorem read_any (s : ByteArray) (mem cur : Int) (w : World) (hZ : SZ w) (hsz : s.size ≤ 100000) :
    Calls Tryd.prog 16 #[.string s, .int .i64 mem, .int .i64 cur] w (RdP w (readB (bl s) mem cur)) := by
  by_cases h : newR mem cur = false ∨ (bl s).length < 2
  · exact read_short s mem cur w h
  · have hn : newR mem cur = true := by
      rcases hh : newR mem cur with _ | _
      · exact absurd (.inl hh) h
      · rfl
    have h2 : 2 ≤ (bl s).length := by have := fun e => h (.inr e); omega
    by_cases hb : 200 < vls ((bl s).take 2) ∨ (bl s).length ≠ 2 + vls ((bl s).take 2) * 28
    · exact read_bad s mem cur w hn h2 hsz hb
    · exact read_main s mem cur w hZ hn h2 hsz (fun e => hb (.inl e)) (by have := fun e => hb (.inr e); omega)
end Go.Proofs.YtflbggehgjllcaaDoor
