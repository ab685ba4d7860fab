/- The law's awake, plainly. -/
import Derived.Test.YtiehbbhjpcnbnaaGreatSI
import Derived.Test.YtiehbbhjpcnbnaaGreatMAX
namespace Go.Proofs.YtiehbbhjpcnbnaaGreat
open Go.RowKit
set_option linter.unusedVariables false

def d7 : Dd.Dl := ⟨7, 0, 1, 0, 1, 100, 80⟩
def d8 : Dd.Dl := ⟨8, 0, 1, 0, 1, 1, 1⟩
def aLs (a b : Nat) : List LV := [⟨some ⟨a, 0, none⟩, 2, 2, [0, 0], 0⟩, ⟨some ⟨b, 0, none⟩, 2, 2, [0, 0], 0⟩]
def aBV (n : Nat) : BV := ⟨some ⟨n, 0, none⟩, 2, 2, gCs, some ⟨n + 3, 0, none⟩, 2, 2, aLs (n + 1) (n + 2), some ⟨n + 4, 0, none⟩, 2, 2, [d7, d8], some ⟨n + 5, 0, none⟩, 2, 2, [⟨0, 0, 100⟩, ⟨1, 1, 80⟩]⟩
def aG0 : GM := newGM (LM.new 2 2) gCs (aLs 0 0)
def aS0 : ST := ⟨inS aG0 [⟨0, 0, 100⟩, ⟨1, 1, 80⟩], subS ⟨2, 2, [], 0⟩ [d7, d8]⟩
theorem aLs_eq (a b : Nat) : newGM (LM.new 2 2) gCs (aLs a b) = aG0 := by
  have e : LimM (aLs a b) = LimM (aLs 0 0) := by
    funext m
    match m with
    | 0 => rfl
    | 1 => rfl
    | m + 2 => rfl
  unfold aG0 newGM
  rw [e]
theorem aBV_st (n : Nat) : (aBV n).st = aS0 := by
  show ST.mk (inS (newGM (LM.new 2 2) gCs (aLs (n + 1) (n + 2))) _) _ = _
  rw [aLs_eq]; rfl
theorem aBV_good (n : Nat) : (aBV n).Good := ⟨by show 2 ≤ 30; omega, by show 2 ≤ 30; omega, by show 2 ≤ 8; omega, by show 2 ≤ 16; omega, by show newOk 2 2 = true; decide, chk_gCs, rfl⟩
theorem a_l : aS0.b.l = [⟨d7, 2, 0, 1⟩, ⟨d8, 2, 0, 2⟩] := by decide +kernel
theorem all_two {b : Dd.Bk} {x y : Dd.En} (h : b.l.filter (fun e => decide (e.st = 2)) = [x, y]) (hn : x.nth ≤ y.nth) : b.all 2 = [x.d.id, y.d.id] := by
  unfold Dd.Bk.all
  dsimp only
  rw [if_pos rfl, h]
  unfold Dd.lowest
  rw [List.mergeSort_of_pairwise (by simp [hn])]
  rfl
theorem all_one {b : Dd.Bk} {x : Dd.En} (h : b.l.filter (fun e => decide (e.st = 2)) = [x]) : b.all 2 = [x.d.id] := by
  unfold Dd.Bk.all
  dsimp only
  rw [if_pos rfl, h]
  unfold Dd.lowest
  rw [List.mergeSort_singleton]
  rfl
theorem a_all : aS0.b.all 2 = [7, 8] := all_two (x := ⟨d7, 2, 0, 1⟩) (y := ⟨d8, 2, 0, 2⟩) (by rw [a_l]; rfl) (by decide)
def aS1 : ST := (passL aS0 [7, 8]).2
theorem a_p1 : (passL aS0 [7, 8]).1 = [7] := by decide +kernel
theorem a_l1 : aS1.b.l = [⟨d7, 3, 0, 1⟩, ⟨d8, 2, 0, 2⟩] := by decide +kernel
theorem a_all1 : aS1.b.all 2 = [8] := all_one (x := ⟨d8, 2, 0, 2⟩) (by rw [a_l1]; rfl)
theorem a_p2 : (passL aS1 [8]).1 = [] := by decide +kernel
def aS2 : ST := (passL aS1 [8]).2
theorem eta_fst {α β : Type} {p : α × β} {x : α} (h : p.1 = x) : p = (x, p.2) := by rw [← h]
theorem a_e1 : passS aS0 = ([7], aS1) := by
  have e : passS aS0 = passL aS0 [7, 8] := by unfold passS; rw [a_all]
  rw [e]; exact eta_fst a_p1
theorem a_e2 : passS aS1 = ([], aS2) := by
  have e : passS aS1 = passL aS1 [8] := by unfold passS; rw [a_all1]
  rw [e]; exact eta_fst a_p2
theorem a_cyc (h : aS0.Ok) : cycS aS0 = ([7], 2, aS2) := by
  have e1 : passS aS0 = ([7], aS1) := a_e1
  have e2 : passS aS1 = ([], aS2) := a_e2
  have h1 : aS1.Ok := by have := pass_ok h; rw [e1] at this; exact this
  have c1 : cycS aS1 = ([], 1, aS2) := by rw [cyc_step h1, e2]; exact if_pos rfl
  rw [cyc_step h, e1]
  dsimp only
  rw [if_neg (by simp), c1]
  exact rfl
theorem a_t9 : (tryS aS0 9).1 = 5 := by decide +kernel
theorem a_t7 : (tryS aS2 7).1 = 7 := by decide +kernel
theorem a_t8 : (tryS aS2 8).1 = 10 := by decide +kernel
theorem a_g0 : aS2.g.l.get 0 1 = 80 := by decide +kernel
theorem a_g1 : aS2.g.l.get 1 0 = 100 := by decide +kernel
end Go.Proofs.YtiehbbhjpcnbnaaGreat
