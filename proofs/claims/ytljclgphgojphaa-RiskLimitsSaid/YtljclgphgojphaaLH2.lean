/- The program's ledger in memory; the contracts of within, hasCurrency, has, Get, Nostro, Size.
  The contracts of New and of a row's plus.
  Rows of eight amounts, stored and loaded. -/
import Derived.Test.YtljclgphgojphaaLG8
import Derived.Deep.QuietTactic
import Derived.BigQuiet
namespace Go.Proofs.Ytljclgphgojphaa
open Go.RowKit
set_option linter.unusedVariables false

/-- a row of eight amounts -/
def r8 (f : Nat → Int) : Array Value := #[.int .i64 (f 0), .int .i64 (f 1), .int .i64 (f 2), .int .i64 (f 3), .int .i64 (f 4), .int .i64 (f 5), .int .i64 (f 6), .int .i64 (f 7)]
theorem lt8 {c : Nat} (h : c < 8) : c = 0 ∨ c = 1 ∨ c = 2 ∨ c = 3 ∨ c = 4 ∨ c = 5 ∨ c = 6 ∨ c = 7 := by omega
theorem r8_get (f : Nat → Int) {c : Nat} (h : c < 8) : (r8 f)[c]? = some (.int .i64 (f c)) := by
  rcases lt8 h with rfl | rfl | rfl | rfl | rfl | rfl | rfl | rfl <;> rfl
theorem r8_ext {f g : Nat → Int} (h : ∀ c, c < 8 → f c = g c) : r8 f = r8 g := by
  unfold r8
  rw [h 0 (by omega), h 1 (by omega), h 2 (by omega), h 3 (by omega), h 4 (by omega), h 5 (by omega), h 6 (by omega), h 7 (by omega)]
theorem r8_set (f : Nat → Int) {c : Nat} (h : c < 8) (x : Int) : (r8 f).setIfInBounds c (.int .i64 x) = r8 (upd f c x) := by
  rcases lt8 h with rfl | rfl | rfl | rfl | rfl | rfl | rfl | rfl <;> rfl
/-- a ledger's own cells -/
def lArr (l : LM) (gB cB : Nat) : Array Value := #[.int .i64 (l.nc : Nat), .int .i64 (l.N 0), .int .i64 (l.N 1), .int .i64 (l.N 2), .int .i64 (l.N 3), .int .i64 (l.N 4), .int .i64 (l.N 5), .int .i64 (l.N 6), .int .i64 (l.N 7), .slice (some ⟨gB, 0, none⟩) l.nm cB]
theorem lArr_nos (l : LM) (gB cB : Nat) {c : Nat} (h : c < 8) : (lArr l gB cB)[1 + c]? = some (.int .i64 (l.N c)) := by
  rcases lt8 h with rfl | rfl | rfl | rfl | rfl | rfl | rfl | rfl <;> rfl
/-- balances in memory: rows of eight -/
def BR (w : World) (g : Nat) (B : Nat → Nat → Int) (n : Nat) : Prop := ∃ cs, w.heap[g]? = some (.cells cs 67 (0, 0)) ∧ ∀ m, m < n → ∀ c, c < 8 → cs[m * 8 + c]? = some (.int .i64 (B m c))
theorem BR.lt {w : World} {g n : Nat} {B : Nat → Nat → Int} (h : BR w g B n) : g < w.heap.size := by obtain ⟨cs, h, _⟩ := h; exact obj_lt h
theorem BR.cell {w : World} {g n : Nat} {B : Nat → Nat → Int} (h : BR w g B n) {m c : Nat} (hm : m < n) (hc : c < 8) : w.cell? ⟨g, m * 8 + c, none⟩ = some (.int .i64 (B m c)) := by obtain ⟨cs, h1, h2⟩ := h; exact obj_cell h1 (h2 m hm c hc)
theorem BR.free {w : World} {g n : Nat} {B : Nat → Nat → Int} (h : BR w g B n) (i : Nat) : w.frozen? ⟨g, i, none⟩ = false := by obtain ⟨cs, h1, h2⟩ := h; exact obj_free h1 i
theorem BR.at {w w' : World} {g n : Nat} {B : Nat → Nat → Int} (h : BR w g B n) (hb : w'.heap[g]? = w.heap[g]?) : BR w' g B n := by obtain ⟨cs, h1, h2⟩ := h; exact ⟨cs, hb.trans h1, h2⟩
theorem BR.congr {w : World} {g n : Nat} {B C : Nat → Nat → Int} (h : BR w g B n) (e : ∀ m c, m < n → c < 8 → B m c = C m c) : BR w g C n := by
  obtain ⟨cs, h1, h2⟩ := h
  exact ⟨cs, h1, fun m hm c hc => by rw [← e m c hm hc]; exact h2 m hm c hc⟩
/-- f, but row i is r -/
def updR (B : Nat → Nat → Int) (i : Nat) (r : Nat → Int) : Nat → Nat → Int := fun a => if a = i then r else B a
theorem updR_same (B : Nat → Nat → Int) (i : Nat) (r : Nat → Int) : updR B i r i = r := if_pos rfl
theorem updR_other (B : Nat → Nat → Int) {i a : Nat} (r : Nat → Int) (h : a ≠ i) : updR B i r a = B a := if_neg h
/-- the program's ledger, by its blocks -/
structure PLv (P : Nat → Prop) (w : World) (b : Nat) (l : LM) (gB cB : Nat) : Prop where
  obj : w.heap[b]? = some (.cells (lArr l gB cB) 69 (0, 0))
  bal : BR w gB l.B l.nm
  nm : l.nm ≤ 16
  nc : l.nc ≤ 8
  own : P b ∧ P gB
def PL (P : Nat → Prop) (w : World) (b : Nat) (l : LM) : Prop := ∃ gB cB, PLv P w b l gB cB
theorem PL.live (b : Nat) (l : LM) : Live fun P w => PL P w b l := by
  refine ⟨?_, ?_⟩
  · rintro P w w' F ⟨gB, cB, h⟩ hK hF
    have hb := obj_lt h.obj
    have hg := h.bal.lt
    exact ⟨gB, cB, (hK.block _ hb (hF _ hb h.own.1)).trans h.obj, h.bal.at (hK.block _ hg (hF _ hg h.own.2)), h.nm, h.nc, h.own⟩
  · rintro P Q w ⟨gB, cB, h⟩ hq
    exact ⟨gB, cB, h.obj, h.bal, h.nm, h.nc, hq _ (obj_lt h.obj) h.own.1, hq _ h.bal.lt h.own.2⟩
section
variable {P : Nat → Prop} {w w' : World} {b gB cB : Nat} {l : LM}
theorem PLv.c0 (h : PLv P w b l gB cB) : w.cell? ⟨b, 0, none⟩ = some (.int .i64 (l.nc : Nat)) := obj_cell h.obj rfl
theorem PLv.c9 (h : PLv P w b l gB cB) : w.cell? ⟨b, 9, none⟩ = some (.slice (some ⟨gB, 0, none⟩) l.nm cB) := obj_cell h.obj rfl
theorem PLv.cn (h : PLv P w b l gB cB) {c : Nat} (hc : c < 8) : w.cell? ⟨b, 1 + c, none⟩ = some (.int .i64 (l.N c)) := obj_cell h.obj (lArr_nos l gB cB hc)
theorem PLv.kept (h : PLv P w b l gB cB) (hb : ∀ j, j < w.heap.size → P j → w'.heap[j]? = w.heap[j]?) : PLv P w' b l gB cB :=
  ⟨(hb _ (obj_lt h.obj) h.own.1).trans h.obj, h.bal.at (hb _ h.bal.lt h.own.2), h.nm, h.nc, h.own⟩
theorem PLv.below (h : PLv P w b l gB cB) (hb : Below w.heap.size w w') : PLv P w' b l gB cB := h.kept fun j hj _ => hb.block j hj
end
def LM.hasC (l : LM) (c : Int) : Bool := decide (0 ≤ c ∧ c < l.nc)
theorem LM.hasC_iff {l : LM} {c : Int} : l.hasC c = true ↔ 0 ≤ c ∧ c < l.nc := by unfold LM.hasC; simp
theorem LM.has_eq (l : LM) (m c : Int) : l.has m c = (decide (0 ≤ m) && decide (m < l.nm) && l.hasC c) := by unfold LM.has LM.hasC; simp [Bool.decide_and, Bool.and_assoc]

theorem retL_bool {a b : Bool} (h : a = b) : Ending.returned (.bool a) = .returned (.bool b) := by rw [h]
set_option maxHeartbeats 1000000 in
theorem within_any (x y : Int) (w : World) : Calls Try.prog 23 #[.int .i64 x, .int .i64 y] w fun e w' => e = .returned (.bool (decide (1 ≤ x) && decide (x ≤ y))) ∧ w = w' := by
  by_cases h1 : 1 ≤ x
  · by_cases h2 : x ≤ y
    · go_enter Try.func23, Try.ntmps23
      go_wp2_with fail
      go_ret
      exact ⟨retL_bool (by simp; omega), rfl⟩
    · go_enter Try.func23, Try.ntmps23
      go_wp2_with fail
      go_ret
      exact ⟨retL_bool (by simp; omega), rfl⟩
  · go_enter Try.func23, Try.ntmps23
    go_wp2_with fail
    go_ret
    exact ⟨retL_bool (by simp; omega), rfl⟩

set_option maxHeartbeats 1000000 in
theorem hasC_any {P : Nat → Prop} {b gB cB : Nat} {l : LM} (c : Int) (w : World) (h : PLv P w b l gB cB) :
    Calls Try.prog 60 #[.pointer (some ⟨b, 0, none⟩), .int .i64 c] w fun e w' => e = .returned (.bool (l.hasC c)) ∧ w = w' := by
  have c0 := h.c0
  clear h
  by_cases h1 : 0 ≤ c
  · by_cases h2 : c < (l.nc : Int)
    · go_enter Try.func60, Try.ntmps60
      go_wp2_with fail
      go_ret
      exact ⟨retL_bool (LM.hasC_iff.2 ⟨h1, h2⟩).symm, rfl⟩
    · go_enter Try.func60, Try.ntmps60
      go_wp2_with fail
      go_ret
      exact ⟨retL_bool (by unfold LM.hasC; simp; omega), rfl⟩
  · go_enter Try.func60, Try.ntmps60
    go_wp2_with fail
    go_ret
    exact ⟨retL_bool (by unfold LM.hasC; simp; omega), rfl⟩

set_option maxHeartbeats 1000000 in
theorem hasL_any {P : Nat → Prop} {b gB cB : Nat} {l : LM} (m c : Int) (w : World) (h : PLv P w b l gB cB) :
    Calls Try.prog 38 #[.pointer (some ⟨b, 0, none⟩), .int .i64 m, .int .i64 c] w fun e w' => e = .returned (.bool (l.has m c)) ∧ w = w' := by
  have c9 := h.c9
  have hC := hasC_any c w h
  have he := l.has_eq m c
  replace he := Lib.hid he
  replace hC := Lib.hid hC
  clear h
  by_cases h1 : 0 ≤ m
  · by_cases h2 : m < (l.nm : Int)
    · go_enter Try.func38, Try.ntmps38
      go_wp2_with fail
      with_reducible refine hC.out.mono ?_
      rintro e w1 ⟨rfl, rfl⟩
      go_wp2_with fail
      go_ret
      exact ⟨retL_bool (by rw [he.out]; simp [h1, h2]), rfl⟩
    · go_enter Try.func38, Try.ntmps38
      go_wp2_with fail
      go_ret
      exact ⟨retL_bool (by rw [he.out]; simp; intros; omega), rfl⟩
  · go_enter Try.func38, Try.ntmps38
    go_wp2_with fail
    go_ret
    exact ⟨retL_bool (by rw [he.out]; simp; intros; omega), rfl⟩

set_option maxHeartbeats 1000000 in
theorem get_any {P : Nat → Prop} {b gB cB : Nat} {l : LM} (m c : Int) (w : World) (h : PLv P w b l gB cB) :
    Calls Try.prog 15 #[.pointer (some ⟨b, 0, none⟩), .int .i64 m, .int .i64 c] w fun e w' => e = .returned (.int .i64 (l.get m c)) ∧ w = w' := by
  have hH := hasL_any m c w h
  unfold LM.get
  cases hh : l.has m c with
  | false =>
    rw [hh] at hH
    replace hH := Lib.hid hH
    replace hh := Lib.hid hh
    clear h
    go_enter Try.func15, Try.ntmps15
    go_wp2_with fail
    with_reducible refine hH.out.mono ?_
    rintro e w1 ⟨rfl, rfl⟩
    go_wp2_with fail
    go_ret
    exact ⟨rfl, rfl⟩
  | true =>
    obtain ⟨i, j, rfl, rfl, hi, hj⟩ := LM.has_nat hh
    have hn8 := h.nc
    have hj8 : j < 8 := by omega
    have c9 := h.c9
    have x0 := h.bal.cell hi hj8
    have hiz : (i : Int) < (l.nm : Int) := by omega
    have hjz : (j : Int) < 8 := by omega
    rw [hh] at hH
    replace hH := Lib.hid hH
    replace hh := Lib.hid hh
    clear h
    simp only [Int.toNat_natCast]
    go_enter Try.func15, Try.ntmps15
    go_wp2_with fail
    with_reducible refine hH.out.mono ?_
    rintro e w1 ⟨rfl, rfl⟩
    go_wp2_with fail
    go_ret
    exact ⟨rfl, rfl⟩

set_option maxHeartbeats 1000000 in
theorem psize_any {P : Nat → Prop} {b gB cB : Nat} {l : LM} (w : World) (h : PLv P w b l gB cB) :
    Calls Try.prog 25 #[.pointer (some ⟨b, 0, none⟩)] w fun e w' => e = .returned (.tuple #[.int .i64 (l.nm : Nat), .int .i64 (l.nc : Nat)]) ∧ ∃ n, w' = w.drewN n := by
  have c9 := h.c9
  have c0 := h.c0
  clear h
  go_enter Try.func25, Try.ntmps25
  go_upto_region 1 with (fail)
  go_quiet (fail)
  go_wp2_with fail
  go_ret2
  exact ⟨rfl, _, rfl⟩
end Go.Proofs.Ytljclgphgojphaa
namespace Go.Proofs.Ytljclgphgojphaa
open Go.RowKit
set_option linter.unusedVariables false

theorem Try.info59r : (Try.prog.info? 67).map (fun i => (i.zero, i.size, i.bytes)) = some (some (.agg #[.int .i64 0, .int .i64 0, .int .i64 0, .int .i64 0, .int .i64 0, .int .i64 0, .int .i64 0, .int .i64 0]), 8, 64) := by kernel_rfl
/-- rows that are 0 -/
def zrs (n : Nat) : Array Value := madeCells #[.int .i64 0, .int .i64 0, .int .i64 0, .int .i64 0, .int .i64 0, .int .i64 0, .int .i64 0, .int .i64 0] (n * 8)
theorem zrs_get (n : Nat) : ∀ m, m < n → ∀ c, c < 8 → (zrs n)[m * 8 + c]? = some (.int .i64 0) := fun m hm c hc => by
  unfold zrs madeCells
  have h : m * 8 + c < n * 8 := by omega
  have h8 : (m * 8 + c) % 8 = c := by omega
  simp [h, h8]
  rcases lt8 hc with rfl | rfl | rfl | rfl | rfl | rfl | rfl | rfl <;> rfl
theorem make_rows (n : Nat) (hn : n ≤ 1000) (w : World) :
    (Instr.makeSlice 65 (.int .i64 (n : Int)) (.int .i64 (n : Int))).run Try.prog w = .ok (.slice (some ⟨w.heap.size, 0, none⟩) n n) (w.alloc (.cells (zrs n) 67)) := by
  obtain ⟨i0, hi, hz0, hz1, hz2⟩ := info_parts Try.info59r
  have hb : (i0.bytes : Int) * (n : Int) ≤ 281474976710656 := by rw [hz2]; omega
  have hr := run_make (P := Try.prog) w 65 67 i0 _ Try.underlying65 hi hz0 .i64 .i64 n n (by omega) (by omega) hb (by omega)
  simp only [Int.toNat_natCast, hz1] at hr
  exact hr
theorem newOk_iff {nm nc : Int} : newOk nm nc = true ↔ 1 ≤ nm ∧ nm ≤ 16 ∧ 1 ≤ nc ∧ nc ≤ 8 := by unfold newOk; simp

set_option maxHeartbeats 2000000 in
theorem new_any (nm nc : Int) (w : World) : Calls Try.prog 9 #[.int .i64 nm, .int .i64 nc] w fun e w' =>
    (newOk nm nc = true → ∃ b, e = .returned (.tuple #[.pointer (some ⟨b, 0, none⟩), .int .i64 0]) ∧ PL (fun j => w.heap.size ≤ j) w' b (LM.new nm.toNat nc.toNat)) ∧
    (newOk nm nc = false → e = .returned (.tuple #[.pointer none, .int .i64 1])) ∧ Below w.heap.size w w' := by
  have cm := within_any nm 16 w
  have cc := within_any nc 8 w
  replace cm := Lib.hid cm
  replace cc := Lib.hid cc
  by_cases h1 : 1 ≤ nm ∧ nm ≤ 16
  · have e1 : (decide (1 ≤ nm) && decide (nm ≤ 16)) = true := by simp; omega
    by_cases h2 : 1 ≤ nc ∧ nc ≤ 8
    · have e2 : (decide (1 ≤ nc) && decide (nc ≤ 8)) = true := by simp; omega
      obtain ⟨n, rfl⟩ : ∃ n : Nat, nm = n := ⟨nm.toNat, by omega⟩
      obtain ⟨m, rfl⟩ : ∃ m : Nat, nc = m := ⟨nc.toNat, by omega⟩
      have hmk := fun w => make_rows n (by omega) w
      have hfin : PL (fun j => w.heap.size ≤ j) ((w.alloc (.cells (zrs n) 67)).alloc (.cells (lArr (LM.new n m) w.heap.size n) 69)) (w.heap.size + 1) (LM.new n m) :=
        ⟨w.heap.size, n, heap_alloc2_new w _ _, ⟨_, heap_alloc2_old w _ _, zrs_get n⟩, by show n ≤ 16; omega, by show m ≤ 8; omega, by show w.heap.size ≤ w.heap.size + 1; omega, Nat.le_refl _⟩
      have hbl : Below w.heap.size w ((w.alloc (.cells (zrs n) 67)).alloc (.cells (lArr (LM.new n m) w.heap.size n) 69)) := ((Below.refl _ w).alloc (Nat.le_refl _) _).alloc (by simp) _
      unfold lArr LM.new at hfin hbl
      generalize hz : zrs n = z at *
      rw [e1] at cm
      rw [e2] at cc
      have hok := newOk_iff.2 (⟨h1.1, h1.2, h2.1, h2.2⟩ : 1 ≤ (n : Int) ∧ (n : Int) ≤ 16 ∧ 1 ≤ (m : Int) ∧ (m : Int) ≤ 8)
      replace hok := Lib.hid hok
      replace hfin := Lib.hid hfin
      replace hbl := Lib.hid hbl
      go_enter Try.func9, Try.ntmps9
      go_wp2_with fail
      with_reducible refine cm.out.mono ?_
      rintro e w1 ⟨rfl, rfl⟩
      go_wp2_with fail
      with_reducible refine cc.out.mono ?_
      rintro e w1 ⟨rfl, rfl⟩
      go_wp2_with fail
      go_ret2
      exact ⟨fun _ => ⟨_, rfl, hfin.out⟩, fun e => absurd e (by rw [hok.out]; decide), hbl.out⟩
    · have e2 : (decide (1 ≤ nc) && decide (nc ≤ 8)) = false := by simp; omega
      have hok : newOk nm nc = false := by unfold newOk; simp; omega
      rw [e1] at cm
      rw [e2] at cc
      replace hok := Lib.hid hok
      go_enter Try.func9, Try.ntmps9
      go_wp2_with fail
      with_reducible refine cm.out.mono ?_
      rintro e w1 ⟨rfl, rfl⟩
      go_wp2_with fail
      with_reducible refine cc.out.mono ?_
      rintro e w1 ⟨rfl, rfl⟩
      go_wp2_with fail
      go_ret2
      exact ⟨fun e => absurd e (by rw [hok.out]; decide), fun _ => rfl, Below.refl _ _⟩
  · have e1 : (decide (1 ≤ nm) && decide (nm ≤ 16)) = false := by simp; omega
    have hok : newOk nm nc = false := by unfold newOk; simp; omega
    rw [e1] at cm
    replace hok := Lib.hid hok
    go_enter Try.func9, Try.ntmps9
    go_wp2_with fail
    with_reducible refine cm.out.mono ?_
    rintro e w1 ⟨rfl, rfl⟩
    go_wp2_with fail
    go_ret2
    exact ⟨fun e => absurd e (by rw [hok.out]; decide), fun _ => rfl, Below.refl _ _⟩

/-- a row with so much more of one currency -/
def plusR (f : Nat → Int) (c : Nat) (x : Int) : Nat → Int := if In64 (f c + x) then upd f c (f c + x) else fun _ => 0
theorem fitE_in {x : Int} (h : In64 x) : fitV x = x ∧ fitE x = 0 := by obtain ⟨h1, h2⟩ := fit_yes x h.1 h.2; exact ⟨h1.symm, h2.symm⟩
theorem fitE_out {x : Int} (h : ¬ In64 x) : fitE x = 3 := (fit_no x (by unfold In64 at h; omega)).2.symm
set_option maxHeartbeats 2000000 in
theorem rplus_any (f : Nat → Int) (hf : ∀ c, In64 (f c)) (c : Nat) (hc : c < 8) (x : Int) (hx : In64 x) (w : World) :
    Calls Try.prog 55 #[.agg (r8 f), .int .i64 (c : Int), .int .i64 x] w fun e w' => e = .returned (.tuple #[.agg (r8 (plusR f c x)), .int .i64 (fitE (f c + x))]) ∧ Below w.heap.size w w' := by
  have ha := fun w => add_any (f c) x w (hf c).1 (hf c).2 hx.1 hx.2
  have hbv : Below w.heap.size w ((w.alloc (.cells (r8 f) 67)).alloc (.cells (r8 fun _ => 0) 67)) := ((Below.refl _ w).alloc (Nat.le_refl _) _).alloc (by simp) _
  have ho := heap_alloc2_old w (.cells (r8 f) 67) (.cells (r8 fun _ => 0) 67)
  have hr := heap_alloc2_new w (.cells (r8 f) 67) (.cells (r8 fun _ => 0) 67)
  have hcz : (c : Int) < 8 := by omega
  generalize hv : (w.alloc (.cells (r8 f) 67)).alloc (.cells (r8 fun _ => 0) 67) = v at *
  have x0 : v.cell? ⟨w.heap.size, c, none⟩ = some (.int .i64 (f c)) := obj_cell ho (r8_get f hc)
  have hs := obj_lt hr
  by_cases hI : In64 (f c + x)
  · obtain ⟨eV, eE⟩ := fitE_in hI
    have eP : plusR f c x = upd f c (f c + x) := if_pos hI
    rw [eV, eE] at ha
    rw [eE, eP]
    generalize hy : f c + x = y at *
    unfold r8 at hv ⊢
    replace hv := Lib.hid hv
    replace ha := Lib.hid ha
    replace ho := Lib.hid ho
    replace hr := Lib.hid hr
    replace hI := Lib.hid hI
    replace hbv := Lib.hid hbv
    go_enter Try.func55, Try.ntmps55
    go_upto_region 1 with (fail)
    change Code.wp _ _ _ _ ((w.alloc (.cells #[.int .i64 (f 0), .int .i64 (f 1), .int .i64 (f 2), .int .i64 (f 3), .int .i64 (f 4), .int .i64 (f 5), .int .i64 (f 6), .int .i64 (f 7)] 67)).alloc (.cells #[.int .i64 0, .int .i64 0, .int .i64 0, .int .i64 0, .int .i64 0, .int .i64 0, .int .i64 0, .int .i64 0] 67))
    rw [hv.out]
    go_wp2_with fail
    with_reducible refine (ha.out _).mono ?_
    rintro e w1 ⟨rfl, hb1⟩
    have ho1 := (hb1.block _ (by omega)).trans ho.out
    have hr1 := (hb1.block _ hs).trans hr.out
    have z0 := obj_free ho1 c
    have k0 : w1.cell? ⟨w.heap.size, c, none⟩ = some (.int .i64 (f c)) := obj_cell ho1 (r8_get f hc)
    have hou := obj_set ho1 c (.int .i64 y)
    have hru : (w1.setCell ⟨w.heap.size, c, none⟩ (.int .i64 y)).heap[w.heap.size + 1]? = _ := (obj_other _ (by show w.heap.size + 1 ≠ w.heap.size; omega)).trans hr1
    rw [r8_set f hc] at hou
    have hbu : Below w.heap.size w (w1.setCell ⟨w.heap.size, c, none⟩ (.int .i64 y)) := (hbv.out.trans (hb1.mono (by omega))).setCell (Nat.le_refl _) _
    replace hb1 := Lib.hid hb1
    replace ho1 := Lib.hid ho1
    replace hr1 := Lib.hid hr1
    generalize hu : w1.setCell ⟨w.heap.size, c, none⟩ (.int .i64 y) = u at *
    have y0 : u.cell? ⟨w.heap.size, 0, none⟩ = some (.int .i64 (upd f c y 0)) := obj_cell hou rfl
    have y1 : u.cell? ⟨w.heap.size, 1, none⟩ = some (.int .i64 (upd f c y 1)) := obj_cell hou rfl
    have y2 : u.cell? ⟨w.heap.size, 2, none⟩ = some (.int .i64 (upd f c y 2)) := obj_cell hou rfl
    have y3 : u.cell? ⟨w.heap.size, 3, none⟩ = some (.int .i64 (upd f c y 3)) := obj_cell hou rfl
    have y4 : u.cell? ⟨w.heap.size, 4, none⟩ = some (.int .i64 (upd f c y 4)) := obj_cell hou rfl
    have y5 : u.cell? ⟨w.heap.size, 5, none⟩ = some (.int .i64 (upd f c y 5)) := obj_cell hou rfl
    have y6 : u.cell? ⟨w.heap.size, 6, none⟩ = some (.int .i64 (upd f c y 6)) := obj_cell hou rfl
    have y7 : u.cell? ⟨w.heap.size, 7, none⟩ = some (.int .i64 (upd f c y 7)) := obj_cell hou rfl
    have q0 : u.cell? ⟨w.heap.size + 1, 0, none⟩ = some (.int .i64 0) := obj_cell hru rfl
    have q1 : u.cell? ⟨w.heap.size + 1, 1, none⟩ = some (.int .i64 0) := obj_cell hru rfl
    have q2 : u.cell? ⟨w.heap.size + 1, 2, none⟩ = some (.int .i64 0) := obj_cell hru rfl
    have q3 : u.cell? ⟨w.heap.size + 1, 3, none⟩ = some (.int .i64 0) := obj_cell hru rfl
    have q4 : u.cell? ⟨w.heap.size + 1, 4, none⟩ = some (.int .i64 0) := obj_cell hru rfl
    have q5 : u.cell? ⟨w.heap.size + 1, 5, none⟩ = some (.int .i64 0) := obj_cell hru rfl
    have q6 : u.cell? ⟨w.heap.size + 1, 6, none⟩ = some (.int .i64 0) := obj_cell hru rfl
    have q7 : u.cell? ⟨w.heap.size + 1, 7, none⟩ = some (.int .i64 0) := obj_cell hru rfl
    have z := obj_free hru
    replace hou := Lib.hid hou
    replace hru := Lib.hid hru
    replace hu := Lib.hid hu
    replace hbu := Lib.hid hbu
    go_upto_region 5 with (fail)
    rw [hu.out]
    go_wp2_with fail
    refine bodyPost_ret (v := .tuple #[.agg #[.int .i64 (upd f c y 0), .int .i64 (upd f c y 1), .int .i64 (upd f c y 2), .int .i64 (upd f c y 3), .int .i64 (upd f c y 4), .int .i64 (upd f c y 5), .int .i64 (upd f c y 6), .int .i64 (upd f c y 7)], .int .i64 0]) ?_ rfl ⟨rfl, ?_⟩
    · simp [results, Try.results55, go_sem, q0, q1, q2, q3, q4, q5, q6, q7]
    · repeat (refine Below.setCell ?_ (Nat.le_succ _) _)
      exact hbu.out
  · have eE := fitE_out hI
    have eP : plusR f c x = fun _ => 0 := if_neg hI
    rw [eE] at ha
    rw [eE, eP]
    generalize fitV (f c + x) = y at *
    generalize f c + x = y2 at *
    unfold r8 at hv ⊢
    replace hv := Lib.hid hv
    replace ha := Lib.hid ha
    replace ho := Lib.hid ho
    replace hr := Lib.hid hr
    replace hI := Lib.hid hI
    replace hbv := Lib.hid hbv
    go_enter Try.func55, Try.ntmps55
    go_upto_region 1 with (fail)
    change Code.wp _ _ _ _ ((w.alloc (.cells #[.int .i64 (f 0), .int .i64 (f 1), .int .i64 (f 2), .int .i64 (f 3), .int .i64 (f 4), .int .i64 (f 5), .int .i64 (f 6), .int .i64 (f 7)] 67)).alloc (.cells #[.int .i64 0, .int .i64 0, .int .i64 0, .int .i64 0, .int .i64 0, .int .i64 0, .int .i64 0, .int .i64 0] 67))
    rw [hv.out]
    go_wp2_with fail
    with_reducible refine (ha.out _).mono ?_
    rintro e w1 ⟨rfl, hb1⟩
    have hru := (hb1.block _ hs).trans hr.out
    have q0 : w1.cell? ⟨w.heap.size + 1, 0, none⟩ = some (.int .i64 0) := obj_cell hru rfl
    have q1 : w1.cell? ⟨w.heap.size + 1, 1, none⟩ = some (.int .i64 0) := obj_cell hru rfl
    have q2 : w1.cell? ⟨w.heap.size + 1, 2, none⟩ = some (.int .i64 0) := obj_cell hru rfl
    have q3 : w1.cell? ⟨w.heap.size + 1, 3, none⟩ = some (.int .i64 0) := obj_cell hru rfl
    have q4 : w1.cell? ⟨w.heap.size + 1, 4, none⟩ = some (.int .i64 0) := obj_cell hru rfl
    have q5 : w1.cell? ⟨w.heap.size + 1, 5, none⟩ = some (.int .i64 0) := obj_cell hru rfl
    have q6 : w1.cell? ⟨w.heap.size + 1, 6, none⟩ = some (.int .i64 0) := obj_cell hru rfl
    have q7 : w1.cell? ⟨w.heap.size + 1, 7, none⟩ = some (.int .i64 0) := obj_cell hru rfl
    have z := obj_free hru
    have hbu : Below w.heap.size w w1 := hbv.out.trans (hb1.mono (by omega))
    replace hb1 := Lib.hid hb1
    replace hru := Lib.hid hru
    replace hbu := Lib.hid hbu
    go_wp2_with fail
    refine bodyPost_ret (v := .tuple #[.agg #[.int .i64 0, .int .i64 0, .int .i64 0, .int .i64 0, .int .i64 0, .int .i64 0, .int .i64 0, .int .i64 0], .int .i64 3]) ?_ rfl ⟨rfl, ?_⟩
    · simp [results, Try.results55, go_sem, q0, q1, q2, q3, q4, q5, q6, q7]
    · repeat (refine Below.setCell ?_ (Nat.le_succ _) _)
      exact hbu.out
end Go.Proofs.Ytljclgphgojphaa
namespace Go.Proofs.Ytljclgphgojphaa
open Go.RowKit
set_option linter.unusedVariables false

/-- a box of eight amounts -/
def BX (w : World) (p : Nat) (f : Nat → Int) : Prop := w.heap[p]? = some (.cells (r8 f) 67 (0, 0))
theorem BX.cells {w : World} {p : Nat} {f : Nat → Int} (h : BX w p f) : w.cell? ⟨p, 0, none⟩ = some (.int .i64 (f 0)) ∧ w.cell? ⟨p, 1, none⟩ = some (.int .i64 (f 1)) ∧ w.cell? ⟨p, 2, none⟩ = some (.int .i64 (f 2)) ∧ w.cell? ⟨p, 3, none⟩ = some (.int .i64 (f 3)) ∧
    w.cell? ⟨p, 4, none⟩ = some (.int .i64 (f 4)) ∧ w.cell? ⟨p, 5, none⟩ = some (.int .i64 (f 5)) ∧ w.cell? ⟨p, 6, none⟩ = some (.int .i64 (f 6)) ∧ w.cell? ⟨p, 7, none⟩ = some (.int .i64 (f 7)) :=
  ⟨obj_cell h rfl, obj_cell h rfl, obj_cell h rfl, obj_cell h rfl, obj_cell h rfl, obj_cell h rfl, obj_cell h rfl, obj_cell h rfl⟩
theorem BX.at {w w' : World} {p : Nat} {f : Nat → Int} (h : BX w p f) (hb : w'.heap[p]? = w.heap[p]?) : BX w' p f := hb.trans h
theorem BX.made (w : World) (f : Nat → Int) : BX (w.alloc (.cells (r8 f) 67)) w.heap.size f := heap_alloc_new w _
theorem BR.cells {w : World} {g n m : Nat} {B : Nat → Nat → Int} (h : BR w g B n) (hm : m < n) : w.cell? ⟨g, m * 8, none⟩ = some (.int .i64 (B m 0)) ∧ w.cell? ⟨g, m * 8 + 1, none⟩ = some (.int .i64 (B m 1)) ∧ w.cell? ⟨g, m * 8 + 2, none⟩ = some (.int .i64 (B m 2)) ∧ w.cell? ⟨g, m * 8 + 3, none⟩ = some (.int .i64 (B m 3)) ∧
    w.cell? ⟨g, m * 8 + 4, none⟩ = some (.int .i64 (B m 4)) ∧ w.cell? ⟨g, m * 8 + 5, none⟩ = some (.int .i64 (B m 5)) ∧ w.cell? ⟨g, m * 8 + 6, none⟩ = some (.int .i64 (B m 6)) ∧ w.cell? ⟨g, m * 8 + 7, none⟩ = some (.int .i64 (B m 7)) :=
  ⟨h.cell (c := 0) hm (by omega), h.cell (c := 1) hm (by omega), h.cell (c := 2) hm (by omega), h.cell (c := 3) hm (by omega), h.cell (c := 4) hm (by omega), h.cell (c := 5) hm (by omega), h.cell (c := 6) hm (by omega), h.cell (c := 7) hm (by omega)⟩
theorem PLv.ncells {P : Nat → Prop} {w : World} {b gB cB : Nat} {l : LM} (h : PLv P w b l gB cB) : w.cell? ⟨b, 1, none⟩ = some (.int .i64 (l.N 0)) ∧ w.cell? ⟨b, 2, none⟩ = some (.int .i64 (l.N 1)) ∧ w.cell? ⟨b, 3, none⟩ = some (.int .i64 (l.N 2)) ∧ w.cell? ⟨b, 4, none⟩ = some (.int .i64 (l.N 3)) ∧
    w.cell? ⟨b, 5, none⟩ = some (.int .i64 (l.N 4)) ∧ w.cell? ⟨b, 6, none⟩ = some (.int .i64 (l.N 5)) ∧ w.cell? ⟨b, 7, none⟩ = some (.int .i64 (l.N 6)) ∧ w.cell? ⟨b, 8, none⟩ = some (.int .i64 (l.N 7)) :=
  ⟨obj_cell h.obj rfl, obj_cell h.obj rfl, obj_cell h.obj rfl, obj_cell h.obj rfl, obj_cell h.obj rfl, obj_cell h.obj rfl, obj_cell h.obj rfl, obj_cell h.obj rfl⟩
/-- eight amounts stored -/
def st8 (w : World) (p off : Nat) (f : Nat → Int) : World :=
  (((((((w.setCell ⟨p, off, none⟩ (.int .i64 (f 0))).setCell ⟨p, off + 1, none⟩ (.int .i64 (f 1))).setCell ⟨p, off + 2, none⟩ (.int .i64 (f 2))).setCell ⟨p, off + 3, none⟩ (.int .i64 (f 3))).setCell ⟨p, off + 4, none⟩ (.int .i64 (f 4))).setCell ⟨p, off + 5, none⟩ (.int .i64 (f 5))).setCell ⟨p, off + 6, none⟩ (.int .i64 (f 6))).setCell ⟨p, off + 7, none⟩ (.int .i64 (f 7))
theorem st8_other (w : World) {p k : Nat} (off : Nat) (f : Nat → Int) (h : k ≠ p) : (st8 w p off f).heap[k]? = w.heap[k]? := by
  unfold st8
  rw [obj_other _ h, obj_other _ h, obj_other _ h, obj_other _ h, obj_other _ h, obj_other _ h, obj_other _ h, obj_other _ h]
theorem st8_at {w : World} {p : Nat} {cs : Array Value} {T : TypeId} (h : w.heap[p]? = some (.cells cs T (0, 0))) (off : Nat) (f : Nat → Int) : (st8 w p off f).heap[p]? = some (.cells ((((((((cs.setIfInBounds off (.int .i64 (f 0))).setIfInBounds (off + 1) (.int .i64 (f 1))).setIfInBounds (off + 2) (.int .i64 (f 2))).setIfInBounds (off + 3) (.int .i64 (f 3))).setIfInBounds (off + 4) (.int .i64 (f 4))).setIfInBounds (off + 5) (.int .i64 (f 5))).setIfInBounds (off + 6) (.int .i64 (f 6))).setIfInBounds (off + 7) (.int .i64 (f 7))) T (0, 0)) := by
  have h0 := obj_set h off (.int .i64 (f 0))
  have h1 := obj_set h0 (off + 1) (.int .i64 (f 1))
  have h2 := obj_set h1 (off + 2) (.int .i64 (f 2))
  have h3 := obj_set h2 (off + 3) (.int .i64 (f 3))
  have h4 := obj_set h3 (off + 4) (.int .i64 (f 4))
  have h5 := obj_set h4 (off + 5) (.int .i64 (f 5))
  have h6 := obj_set h5 (off + 6) (.int .i64 (f 6))
  have h7 := obj_set h6 (off + 7) (.int .i64 (f 7))
  exact h7
theorem all8 (X g : Nat → Int) : ∀ c, c < 8 → (upd (upd (upd (upd (upd (upd (upd (upd X 0 (g 0)) 1 (g 1)) 2 (g 2)) 3 (g 3)) 4 (g 4)) 5 (g 5)) 6 (g 6)) 7 (g 7)) c = g c := fun c hc => by
  rcases lt8 hc with rfl | rfl | rfl | rfl | rfl | rfl | rfl | rfl <;> rfl
theorem BX.set {w : World} {p : Nat} {f : Nat → Int} (h : BX w p f) (g : Nat → Int) : BX (st8 w p 0 g) p g := by
  have h1 := st8_at h 0 g
  simp only [Nat.zero_add] at h1
  rw [r8_set _ (by omega), r8_set _ (by omega), r8_set _ (by omega), r8_set _ (by omega), r8_set _ (by omega), r8_set _ (by omega), r8_set _ (by omega), r8_set _ (by omega)] at h1
  rw [BX, h1, r8_ext (all8 f g)]
theorem BX.other {w : World} {p q : Nat} {f : Nat → Int} (h : BX w p f) (g : Nat → Int) (hn : p ≠ q) : BX (st8 w q 0 g) p f := h.at (st8_other w _ _ hn)
theorem BR.set {w : World} {g n m : Nat} {B : Nat → Nat → Int} (h : BR w g B n) (hm : m < n) (r : Nat → Int) : BR (st8 w g (m * 8) r) g (updR B m r) n := by
  obtain ⟨cs, h1, h2⟩ := h
  refine ⟨_, st8_at h1 _ _, fun k hk c hc => ?_⟩
  have hz := (Array.getElem?_eq_some_iff.1 (h2 m hm 7 (by omega))).1
  by_cases e : k = m
  · subst e
    rw [updR_same]
    rcases lt8 hc with rfl | rfl | rfl | rfl | rfl | rfl | rfl | rfl <;> simp [Array.getElem?_setIfInBounds] <;> omega
  · rw [updR_other _ _ e, ← h2 k hk c hc]
    have hne : ∀ j, j < 8 → m * 8 + j ≠ k * 8 + c := fun j hj => by omega
    have hne0 : m * 8 ≠ k * 8 + c := hne 0 (by omega)
    rw [Array.getElem?_setIfInBounds_ne (hne 7 (by omega)), Array.getElem?_setIfInBounds_ne (hne 6 (by omega)), Array.getElem?_setIfInBounds_ne (hne 5 (by omega)), Array.getElem?_setIfInBounds_ne (hne 4 (by omega)),
      Array.getElem?_setIfInBounds_ne (hne 3 (by omega)), Array.getElem?_setIfInBounds_ne (hne 2 (by omega)), Array.getElem?_setIfInBounds_ne (hne 1 (by omega)), Array.getElem?_setIfInBounds_ne hne0]
theorem lArr_set {nm nc : Nat} {B : Nat → Nat → Int} {N : Nat → Int} {gB cB : Nat} {x : Int} (c : Nat) (h : c < 8) : (lArr ⟨nm, nc, B, N⟩ gB cB).setIfInBounds (c + 1) (.int .i64 x) = lArr ⟨nm, nc, B, upd N c x⟩ gB cB := by
  rcases lt8 h with rfl | rfl | rfl | rfl | rfl | rfl | rfl | rfl <;> rfl
theorem lArr_ext {nm nc : Nat} {B : Nat → Nat → Int} {N M : Nat → Int} {gB cB : Nat} (h : ∀ c, c < 8 → N c = M c) : lArr ⟨nm, nc, B, N⟩ gB cB = lArr ⟨nm, nc, B, M⟩ gB cB := by
  unfold lArr
  dsimp only
  rw [h 0 (by omega), h 1 (by omega), h 2 (by omega), h 3 (by omega), h 4 (by omega), h 5 (by omega), h 6 (by omega), h 7 (by omega)]
theorem lObj_set {w : World} {b : Nat} {l : LM} {gB cB : Nat} (h : w.heap[b]? = some (.cells (lArr l gB cB) 69 (0, 0))) (g : Nat → Int) : (st8 w b 1 g).heap[b]? = some (.cells (lArr ⟨l.nm, l.nc, l.B, g⟩ gB cB) 69 (0, 0)) := by
  have h1 := st8_at h 1 g
  simp only [Nat.reduceAdd] at h1
  rw [lArr_set 0 (by omega), lArr_set 1 (by omega), lArr_set 2 (by omega), lArr_set 3 (by omega), lArr_set 4 (by omega), lArr_set 5 (by omega), lArr_set 6 (by omega), lArr_set 7 (by omega)] at h1
  rw [h1, lArr_ext (all8 l.N g)]
theorem Kp.st8 {F : Nat → Prop} {a w : World} (h : Kp F a w) {p : Nat} (hp : F p ∨ a.heap.size ≤ p) (off : Nat) (f : Nat → Int) : Kp F a (st8 w p off f) :=
  (((((((h.setCell hp _).setCell hp _).setCell hp _).setCell hp _).setCell hp _).setCell hp _).setCell hp _).setCell hp _
theorem below_st8 {B : Nat} {a w : World} (h : Below B a w) {p : Nat} (hp : B ≤ p) (off : Nat) (f : Nat → Int) : Below B a (st8 w p off f) :=
  (((((((h.setCell hp _).setCell hp _).setCell hp _).setCell hp _).setCell hp _).setCell hp _).setCell hp _).setCell hp _

end Go.Proofs.Ytljclgphgojphaa
