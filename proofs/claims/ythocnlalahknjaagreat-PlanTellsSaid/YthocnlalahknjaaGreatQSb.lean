/- The program with the closure beside it, and what it shares with the program. Conditions: none.
  slices.SortFunc and cmp.Compare lie in the program with the closure beside it as in the program. Conditions: none.
  The method by which places are put in order, and the closure of it, in the program with the closure beside it. Conditions: the row that it reads holds its cells.
  slices.SortFunc by the method value: the places are put in order. Conditions: the row of places, and the row that it reads, hold their cells, and are two. -/
import Derived.Test.YthocnlalahknjaaGreatQSa
import Derived.Test.YthocnlalahknjaaGreatProg
import Derived.KernelRfl
import Derived.Shelf.SlicesG.Cmp
import Derived.Shelf.SlSortCmp.Whole1
import Derived.WalkKit
import Derived.BigQuiet
import Derived.Deep.QuietTactic
import Derived.Shelf.RegionOpenPlain
namespace Go.Proofs.YthocnlalahknjaaGreat
open Go

/-- slices.SortFunc's family, and the method by which it sorts. -/
def fam : List Nat := [118, 119, 124, 65, 125, 55, 92, 129, 130, 131, 132, 133, 134, 135, 136, 91, 137, 77, 138, 109, 110, 139, 140, 141]
def inFam (g : Nat) : Bool := fam.contains g

/-- The slots that hold 'cmp'. -/
def fsl : Nat → List Nat
  | 118 => [1, 12]
  | 124 => [4, 29, 36, 43, 51, 60, 79, 84, 102, 110, 133, 145]
  | 129 => [3, 22]
  | 130 => [3, 28, 58]
  | 131 => [3]
  | 132 => [3, 39, 43, 47, 53]
  | 133 => [3]
  | 134 => [3, 23, 72, 112]
  | 135 => [4, 35, 54]
  | 136 => [4, 36, 54, 109, 127]
  | 138 => [4, 24, 43]
  | 139 => [3, 16]
  | 140 => [5, 18, 27, 36]
  | 141 => [4, 12]
  | _ => []
def famF (g i : Nat) : Bool := (fsl g).contains i

noncomputable def gfn : Func := { name := "", origin := "", params := #[], resultTypes := #[], nfree := 0, ntmps := 4, results := #[.tmp 3], body := some (gbody 119), norace := false, tmpNames := #[] }

noncomputable def bare (x : Func × Nat) : Func := if inFam x.2 then x.1 else { x.1 with body := none }
noncomputable def funcs2 : Array Func := ((Tryz.funcs.toList.zipIdx.map bare) ++ [gfn]).toArray

theorem funcs_size : Tryz.funcs.toList.length = 162 := by kernel_rfl

theorem funcs2_get (g : Nat) (h : inFam g = true) : funcs2[g]? = Tryz.funcs[g]? := by
  have hl : (Tryz.funcs.toList.zipIdx.map bare).length = 162 := by simp; exact funcs_size
  have hg : g < 162 := by
    have : g ∈ fam := by simpa [inFam] using h
    have key : ∀ x ∈ fam, x < 162 := by decide
    exact key g this
  show ((Tryz.funcs.toList.zipIdx.map bare) ++ [gfn]).toArray[g]? = _
  rw [List.getElem?_toArray, List.getElem?_append_left (by rw [hl]; exact hg), List.getElem?_map, List.getElem?_zipIdx]
  simp only [Nat.zero_add, Option.map_map, Array.getElem?_toList]
  cases hc : Tryz.funcs[g]? with
  | none => rfl
  | some fn => simp [bare, h]

theorem funcs2_last : funcs2[162]? = some gfn := by
  have hl : (Tryz.funcs.toList.zipIdx.map bare).length = 162 := by simp; exact funcs_size
  show ((Tryz.funcs.toList.zipIdx.map bare) ++ [gfn]).toArray[162]? = _
  rw [List.getElem?_toArray, List.getElem?_append_right (by omega), hl]
  rfl

noncomputable def okFn (g : Nat) : Bool :=
  match Tryz.funcs[g]? with
  | some fn => (match fn.body with
    | some c => tameCode (Program.underlying ⟨Tryz.progTables, Tryz.funcs⟩) inFam famF (famF g) c && okRes (famF g) fn.results && !(fn.name == "runtime.NumGoroutine")
    | none => false)
  | none => false

set_option maxRecDepth 100000 in
theorem fam_ok : fam.all okFn = true := by kernel_rfl

def noReady (fn : Func) : Bool := match fn.body with
  | some c => (readies c).isEmpty
  | none => true

set_option maxRecDepth 100000 in
theorem noReady_ok : funcs2.toList.all noReady = true := by kernel_rfl

theorem stepOf_none (g : Nat) : Program.stepOf ⟨Tryz.progTables, funcs2⟩ g = none := by
  show funcs2.findIdx? _ = none
  rw [Array.findIdx?_eq_none_iff]
  intro fn hfn
  have h := List.all_eq_true.mp noReady_ok fn (by simpa using hfn)
  unfold noReady at h
  cases hb : fn.body with
  | none => rfl
  | some c =>
    rw [hb] at h
    have : readies c = [] := by simpa using h
    simp [this]

theorem sit : Sit Tryz.progTables Tryz.funcs funcs2 inFam famF 119 162 gfn where
  hS := fun g h => by
    have hm : g ∈ fam := by simpa [inFam] using h
    have ho := List.all_eq_true.mp fam_ok g hm
    unfold okFn at ho
    have h2 := funcs2_get g h
    cases hf : Tryz.funcs[g]? with
    | none => rw [hf] at ho; exact absurd ho Bool.false_ne_true
    | some fn =>
      rw [hf] at ho
      simp only at ho
      cases hb : fn.body with
      | none => rw [hb] at ho; exact absurd ho Bool.false_ne_true
      | some c =>
        rw [hb] at ho
        simp only [Bool.and_eq_true, Bool.not_eq_true'] at ho
        exact ⟨fn, c, rfl, by rw [h2, hf], hb, ho.1.1, ho.1.2, ho.2⟩
  hk := by kernel_rfl
  hkF := fun _ => rfl
  hN := funcs2_last
  hNb := rfl
  hNr := rfl
  hNt := rfl
  hNn := by kernel_rfl
  hE := stepOf_none
  hA := by kernel_rfl

end Go.Proofs.YthocnlalahknjaaGreat
namespace Go.Proofs.YthocnlalahknjaaGreat
open Go Go.Shelf

noncomputable def prog2 : Program := ⟨Tryz.progTables, funcs2⟩

set_option maxRecDepth 100000 in
theorem get2 (g : Nat) (h : inFam g = true) : prog2.funcs[g]? = Tryz.prog.funcs[g]? := funcs2_get g h
set_option maxRecDepth 100000 in
theorem und2 {t : TypeId} {x : Option TypeDesc} (h : Tryz.prog.underlying t = x) : prog2.underlying t = x := h
set_option maxRecDepth 100000 in
theorem isAgg2 {t : TypeId} {b : Bool} (h : ∀ w, (isAgg t).run Tryz.prog w = .ok b w) : ∀ w, (isAgg t).run prog2 w = .ok b w :=
  fun w => (Tab.run Tryz.progTables Tryz.funcs funcs2 (tab_isAgg t) w).1.symm.trans (h w)
set_option maxRecDepth 100000 in
theorem sizeOf2 {t : TypeId} {b : Nat} (h : ∀ w, (Go.sizeOf t).run Tryz.prog w = .ok b w) : ∀ w, (Go.sizeOf t).run prog2 w = .ok b w :=
  fun w => (Tab.run Tryz.progTables Tryz.funcs funcs2 (tab_sizeOf t) w).1.symm.trans (h w)
set_option maxRecDepth 100000 in
theorem zeroValue2 {t : TypeId} {b : Value} (h : ∀ w, (zeroValue t).run Tryz.prog w = .ok b w) : ∀ w, (zeroValue t).run prog2 w = .ok b w :=
  fun w => (Tab.run Tryz.progTables Tryz.funcs funcs2 (tab_zeroValue t) w).1.symm.trans (h w)

def cmp64L_ren : Go.Shelf.Ren := ⟨fun | 5 => 125 | 7 => 137 | n => n, fun | 22 => 2 | 3 => 3 | 4 => 4 | n => n, fun | n => n⟩
theorem cmp64L : Go.Proofs.SlLaysC2.n5 prog2 cmp64L_ren := {
  mixed := by kernel_rfl
  f5 := ⟨Tryz.f125.name, by decide, (get2 125 rfl).trans <| Tryz.func125.trans (congrArg some (by kernel_rfl))⟩
  f7 := ⟨Tryz.f137.name, by decide, (get2 137 rfl).trans <| Tryz.func137.trans (congrArg some (by kernel_rfl))⟩
  t3 := und2 Tryz.underlying3
  a3 := isAgg2 Tryz.isAgg3
  z3 := sizeOf2 Tryz.sizeOf3
  v3 := zeroValue2 Tryz.zeroValue3
  t4 := und2 Tryz.underlying4
  a4 := isAgg2 Tryz.isAgg4
  z4 := sizeOf2 Tryz.sizeOf4
  v4 := zeroValue2 Tryz.zeroValue4
  t22 := und2 Tryz.underlying2
  a22 := isAgg2 Tryz.isAgg2
  z22 := sizeOf2 Tryz.sizeOf2
  v22 := zeroValue2 Tryz.zeroValue2 }
def cmpIntL_ren : Go.Shelf.Ren := ⟨fun | 5 => 55 | 7 => 77 | n => n, fun | 22 => 3 | 3 => 3 | 4 => 4 | n => n, fun | n => n⟩
theorem cmpIntL : Go.Proofs.SlLaysC2.n5 prog2 cmpIntL_ren := {
  mixed := by kernel_rfl
  f5 := ⟨Tryz.f55.name, by decide, (get2 55 rfl).trans <| Tryz.func55.trans (congrArg some (by kernel_rfl))⟩
  f7 := ⟨Tryz.f77.name, by decide, (get2 77 rfl).trans <| Tryz.func77.trans (congrArg some (by kernel_rfl))⟩
  t3 := und2 Tryz.underlying3
  a3 := isAgg2 Tryz.isAgg3
  z3 := sizeOf2 Tryz.sizeOf3
  v3 := zeroValue2 Tryz.zeroValue3
  t4 := und2 Tryz.underlying4
  a4 := isAgg2 Tryz.isAgg4
  z4 := sizeOf2 Tryz.sizeOf4
  v4 := zeroValue2 Tryz.zeroValue4
  t22 := und2 Tryz.underlying3
  a22 := isAgg2 Tryz.isAgg3
  z22 := sizeOf2 Tryz.sizeOf3
  v22 := zeroValue2 Tryz.zeroValue3 }
def sortL_ren : Go.Shelf.Ren := ⟨fun | 6 => 118 | 15 => 65 | 14 => 124 | 28 => 91 | 29 => 92 | 20 => 129 | 21 => 130 | 22 => 131 | 23 => 132 | 24 => 133 | 25 => 134 | 26 => 135 | 27 => 136 | 46 => 138 | 47 => 109 | 48 => 110 | 49 => 139 | 50 => 140 | 57 => 141 | n => n, fun | 22 => 35 | 24 => 3 | 25 => 116 | 3 => 3 | 39 => 127 | 0 => 0 | 53 => 151 | 55 => 95 | 4 => 4 | 46 => 145 | 45 => 144 | 50 => 136 | 5 => 5 | 9 => 9 | 66 => 167 | 70 => 171 | 76 => 177 | 77 => 178 | n => n, fun | n => n⟩
theorem sortL : Go.Proofs.SlLaysF.n6 prog2 sortL_ren := {
  mixed := by kernel_rfl
  f6 := ⟨Tryz.f118.name, by decide, (get2 118 rfl).trans <| Tryz.func118.trans (congrArg some (by kernel_rfl))⟩
  f14 := ⟨Tryz.f124.name, by decide, (get2 124 rfl).trans <| Tryz.func124.trans (congrArg some (by kernel_rfl))⟩
  f15 := (get2 65 rfl).trans <| Tryz.func65.trans (congrArg some (by kernel_rfl))
  f20 := ⟨Tryz.f129.name, by decide, (get2 129 rfl).trans <| Tryz.func129.trans (congrArg some (by kernel_rfl))⟩
  f21 := ⟨Tryz.f130.name, by decide, (get2 130 rfl).trans <| Tryz.func130.trans (congrArg some (by kernel_rfl))⟩
  f22 := ⟨Tryz.f131.name, by decide, (get2 131 rfl).trans <| Tryz.func131.trans (congrArg some (by kernel_rfl))⟩
  f23 := ⟨Tryz.f132.name, by decide, (get2 132 rfl).trans <| Tryz.func132.trans (congrArg some (by kernel_rfl))⟩
  f24 := ⟨Tryz.f133.name, by decide, (get2 133 rfl).trans <| Tryz.func133.trans (congrArg some (by kernel_rfl))⟩
  f25 := ⟨Tryz.f134.name, by decide, (get2 134 rfl).trans <| Tryz.func134.trans (congrArg some (by kernel_rfl))⟩
  f26 := ⟨Tryz.f135.name, by decide, (get2 135 rfl).trans <| Tryz.func135.trans (congrArg some (by kernel_rfl))⟩
  f27 := ⟨Tryz.f136.name, by decide, (get2 136 rfl).trans <| Tryz.func136.trans (congrArg some (by kernel_rfl))⟩
  f28 := (get2 91 rfl).trans <| Tryz.func91.trans (congrArg some (by kernel_rfl))
  f29 := (get2 92 rfl).trans <| Tryz.func92.trans (congrArg some (by kernel_rfl))
  f46 := ⟨Tryz.f138.name, by decide, (get2 138 rfl).trans <| Tryz.func138.trans (congrArg some (by kernel_rfl))⟩
  f47 := (get2 109 rfl).trans <| Tryz.func109.trans (congrArg some (by kernel_rfl))
  f48 := (get2 110 rfl).trans <| Tryz.func110.trans (congrArg some (by kernel_rfl))
  f49 := ⟨Tryz.f139.name, by decide, (get2 139 rfl).trans <| Tryz.func139.trans (congrArg some (by kernel_rfl))⟩
  f50 := ⟨Tryz.f140.name, by decide, (get2 140 rfl).trans <| Tryz.func140.trans (congrArg some (by kernel_rfl))⟩
  f57 := ⟨Tryz.f141.name, by decide, (get2 141 rfl).trans <| Tryz.func141.trans (congrArg some (by kernel_rfl))⟩
  t0 := und2 Tryz.underlying0
  a0 := isAgg2 Tryz.isAgg0
  z0 := sizeOf2 Tryz.sizeOf0
  v0 := zeroValue2 Tryz.zeroValue0
  t3 := und2 Tryz.underlying3
  a3 := isAgg2 Tryz.isAgg3
  z3 := sizeOf2 Tryz.sizeOf3
  v3 := zeroValue2 Tryz.zeroValue3
  t4 := und2 Tryz.underlying4
  a4 := isAgg2 Tryz.isAgg4
  z4 := sizeOf2 Tryz.sizeOf4
  v4 := zeroValue2 Tryz.zeroValue4
  t5 := und2 Tryz.underlying5
  a5 := isAgg2 Tryz.isAgg5
  z5 := sizeOf2 Tryz.sizeOf5
  v5 := zeroValue2 Tryz.zeroValue5
  t9 := und2 Tryz.underlying9
  a9 := isAgg2 Tryz.isAgg9
  z9 := sizeOf2 Tryz.sizeOf9
  v9 := zeroValue2 Tryz.zeroValue9
  t22 := und2 Tryz.underlying35
  a22 := isAgg2 Tryz.isAgg35
  z22 := sizeOf2 Tryz.sizeOf35
  v22 := zeroValue2 Tryz.zeroValue35
  a24 := isAgg2 Tryz.isAgg3
  z24 := sizeOf2 Tryz.sizeOf3
  t25 := und2 Tryz.underlying116
  a25 := isAgg2 Tryz.isAgg116
  z25 := sizeOf2 Tryz.sizeOf116
  v25 := zeroValue2 Tryz.zeroValue116
  t39 := und2 Tryz.underlying127
  a39 := isAgg2 Tryz.isAgg127
  z39 := sizeOf2 Tryz.sizeOf127
  v39 := zeroValue2 Tryz.zeroValue127
  t45 := und2 Tryz.underlying144
  a45 := isAgg2 Tryz.isAgg144
  z45 := sizeOf2 Tryz.sizeOf144
  v45 := zeroValue2 Tryz.zeroValue144
  t46 := und2 Tryz.underlying145
  a46 := isAgg2 Tryz.isAgg145
  z46 := sizeOf2 Tryz.sizeOf145
  v46 := zeroValue2 Tryz.zeroValue145
  t50 := und2 Tryz.underlying136
  a50 := isAgg2 Tryz.isAgg136
  z50 := sizeOf2 Tryz.sizeOf136
  v50 := zeroValue2 Tryz.zeroValue136
  t53 := und2 Tryz.underlying151
  a53 := isAgg2 Tryz.isAgg151
  z53 := sizeOf2 Tryz.sizeOf151
  v53 := zeroValue2 Tryz.zeroValue151
  t55 := und2 Tryz.underlying95
  a55 := isAgg2 Tryz.isAgg95
  z55 := sizeOf2 Tryz.sizeOf95
  v55 := zeroValue2 Tryz.zeroValue95
  t66 := und2 Tryz.underlying167
  a66 := isAgg2 Tryz.isAgg167
  z66 := sizeOf2 Tryz.sizeOf167
  v66 := zeroValue2 Tryz.zeroValue167
  t70 := und2 Tryz.underlying171
  a70 := isAgg2 Tryz.isAgg171
  z70 := sizeOf2 Tryz.sizeOf171
  v70 := zeroValue2 Tryz.zeroValue171
  t76 := und2 Tryz.underlying177
  a76 := isAgg2 Tryz.isAgg177
  z76 := sizeOf2 Tryz.sizeOf177
  v76 := zeroValue2 Tryz.zeroValue177
  t77 := und2 Tryz.underlying178
  a77 := isAgg2 Tryz.isAgg178
  z77 := sizeOf2 Tryz.sizeOf178
  v77 := zeroValue2 Tryz.zeroValue178 }

end Go.Proofs.YthocnlalahknjaaGreat
namespace Go.Proofs.YthocnlalahknjaaGreat
open Go Go.Shelf Go.RowKit

/-- Which of two places is ahead: that of which more is left over, and of as much the one that stands ahead. -/
def aheadOf (ls : Nat → Int) (a b : Nat) : Int := if Lib.compareInt (ls b) (ls a) ≠ 0 then Lib.compareInt (ls b) (ls a) else Lib.compareInt a b

set_option maxHeartbeats 1000000 in
set_option maxRecDepth 100000 in
theorem ahead2 (ls : Nat → Int) (lb lo n c a b : Nat) (w : World) (ha : a < n) (hb : b < n) (hn : n < 4611686018427387904)
    (ca : w.cell? ⟨lb, lo + a, none⟩ = some (.int .i64 (ls a))) (cb : w.cell? ⟨lb, lo + b, none⟩ = some (.int .i64 (ls b))) :
    Calls prog2 119 #[.slice (some ⟨lb, lo, none⟩) n c, .int .i64 a, .int .i64 b] w fun e w' => e = .returned (.int .i64 (aheadOf ls a b)) ∧ ∃ q, w' = w.drewN q := by
  have F38 : prog2.funcs[119]? = some Tryz.f119 := (get2 119 rfl).trans Tryz.func119
  have t2 := und2 Tryz.underlying2; have a2 := isAgg2 Tryz.isAgg2; have z2 := sizeOf2 Tryz.sizeOf2; have v2 := zeroValue2 Tryz.zeroValue2
  have t3 := und2 Tryz.underlying3; have a3 := isAgg2 Tryz.isAgg3; have z3 := sizeOf2 Tryz.sizeOf3; have v3 := zeroValue2 Tryz.zeroValue3
  have t4 := und2 Tryz.underlying4; have a4 := isAgg2 Tryz.isAgg4; have z4 := sizeOf2 Tryz.sizeOf4; have v4 := zeroValue2 Tryz.zeroValue4
  have t38 := und2 Tryz.underlying163; have a38 := isAgg2 Tryz.isAgg163; have z38 := sizeOf2 Tryz.sizeOf163; have v38 := zeroValue2 Tryz.zeroValue163
  have u38 := run_underlying t38
  have mixed : prog2.follows .mixedOrders = true := by kernel_rfl
  have e48 : ∀ args w, (callFunc 125 args).run prog2 w = .ok (.enter 125 args) w := enters_of ((get2 125 rfl).trans Tryz.func125) (by kernel_rfl) rfl
  have e49 : ∀ args w, (callFunc 55 args).run prog2 w = .ok (.enter 55 args) w := enters_of ((get2 55 rfl).trans Tryz.func55) (by kernel_rfl) rfl
  have hc1 : ∀ w, Calls prog2 125 #[.int .i64 (ls b), .int .i64 (ls a)] w fun e w' => e = .returned (.int .i64 (Lib.compareInt (ls b) (ls a))) ∧ w' = w := fun w => AnyG.cmp_Compare_int cmp64L _ _ w
  have hc2 : ∀ w, Calls prog2 55 #[.int .i64 a, .int .i64 b] w fun e w' => e = .returned (.int .i64 (Lib.compareInt a b)) ∧ w' = w := fun w => AnyG.cmp_Compare_int cmpIntL _ _ w
  have haz : (a : Int) < (n : Int) := by omega
  have hbz : (b : Int) < (n : Int) := by omega
  have wa : IntKind.i64.wrap (a : Int) = a := by rw [IntKind.wrap_i64]; omega
  have wb : IntKind.i64.wrap (b : Int) = b := by rw [IntKind.wrap_i64]; omega
  unfold aheadOf
  generalize Lib.compareInt (ls b) (ls a) = r at *
  generalize Lib.compareInt (a : Int) b = r2 at *
  generalize ls a = la at *
  generalize ls b = lb' at *
  go_enter F38, Tryz.ntmps119
  go_wp2_with fail
  go_quiet (first | (go_at_call 125; refine Calls.quiet_of_same (hc1 _)))
  clear ca cb hc1
  by_cases hr : r = 0
  · subst hr
    go_wp2_with (first | (go_at_call 55; refine (hc2 _).mono ?_; rintro e w' ⟨rfl, rfl⟩))
    go_ret
    exact ⟨by simp, nq, rfl⟩
  · go_wp2
    go_ret
    exact ⟨by simp, nq, rfl⟩

set_option maxHeartbeats 1000000 in
set_option maxRecDepth 100000 in
theorem closure2 (ls : Nat → Int) (lb lo n c a b : Nat) (w : World) (ha : a < n) (hb : b < n) (hn : n < 4611686018427387904)
    (ca : w.cell? ⟨lb, lo + a, none⟩ = some (.int .i64 (ls a))) (cb : w.cell? ⟨lb, lo + b, none⟩ = some (.int .i64 (ls b))) :
    Calls prog2 162 #[.int .i64 a, .int .i64 b, .slice (some ⟨lb, lo, none⟩) n c] w fun e w' => e = .returned (.int .i64 (aheadOf ls a b)) ∧ ∃ q, w' = w.drewN q := by
  have FFN : prog2.funcs[162]? = some gfn := funcs2_last
  have e38 : ∀ args w, (callFunc 119 args).run prog2 w = .ok (.enter 119 args) w := enters_of ((get2 119 rfl).trans Tryz.func119) (by kernel_rfl) rfl
  have hcon := ahead2 ls lb lo n c a b w ha hb hn ca cb
  generalize aheadOf ls a b = r at *
  clear ca cb
  go_enter FFN, (rfl : gfn.ntmps = 4)
  rw [show gfn.ntmps - 3 = 1 from rfl]
  unfold gbody callOp
  go_wp2_with (first | (go_at_call 119; refine hcon.mono ?_; rintro e w' ⟨rfl, q, rfl⟩))
  go_ret
  exact ⟨rfl, q, rfl⟩

end Go.Proofs.YthocnlalahknjaaGreat
namespace Go.Proofs.YthocnlalahknjaaGreat
open Go Go.Shelf Go.RowKit Go.Lib Go.Sort

theorem ahead_lt (ls : Nat → Int) (a b : Nat) : aheadOf ls a b < 0 ↔ ls b < ls a ∨ (ls b = ls a ∧ a < b) := by
  unfold aheadOf Lib.compareInt
  by_cases h1 : ls b < ls a <;> by_cases h2 : ls b > ls a <;> by_cases h4 : (a : Int) < b <;> by_cases h5 : (a : Int) > b <;> simp only [h1, h2, h4, h5, if_true, if_false, ne_eq] <;> simp <;> omega

def cfOf (ls : Nat → Int) (m : Nat) (a b : Fin (m + 1)) : Int := aheadOf ls a b
def encP (m : Nat) (a : Fin (m + 1)) : Value := .int .i64 ((a : Nat) : Int)

theorem ltOf_cf (ls : Nat → Int) (m : Nat) (a b : Fin (m + 1)) : ltOf (cfOf ls m) a b = true ↔ ls b < ls a ∨ (ls b = ls a ∧ a < b) := by
  unfold ltOf cfOf
  rw [decide_eq_true_iff, ahead_lt]
  exact Iff.rfl

theorem ltOf_cf_false (ls : Nat → Int) (m : Nat) (a b : Fin (m + 1)) : ltOf (cfOf ls m) a b = false ↔ ¬ (ls b < ls a ∨ (ls b = ls a ∧ a < b)) := by
  rw [← ltOf_cf]; simp

theorem swo_cf (ls : Nat → Int) (m : Nat) : SWO (ltOf (cfOf ls m)) where
  irrefl x := by rw [ltOf_cf_false]; omega
  trans x y z h1 h2 := by rw [ltOf_cf] at *; omega
  ntrans x y z h1 h2 := by rw [ltOf_cf_false] at *; omega

theorem args_rt (s lv : Value) (n : Nat) : RT (famF 118) (V2 162 lv) (V1 119 lv) (#[s, V2 162 lv] ++ Array.replicate n undef) (#[s, V1 119 lv] ++ Array.replicate n undef) := by
  refine ⟨by simp, fun i => ?_⟩
  match i with
  | 0 =>
    rw [Array.getElem?_append_left (by show 0 < 2; omega), Array.getElem?_append_left (by show 0 < 2; omega)]
    exact ⟨fun _ => rfl, fun h => absurd h (by decide)⟩
  | 1 =>
    rw [Array.getElem?_append_left (by show 1 < 2; omega), Array.getElem?_append_left (by show 1 < 2; omega)]
    exact ⟨fun h => absurd h (by decide), fun _ => Or.inr ⟨rfl, rfl⟩⟩
  | i + 2 =>
    rw [Array.getElem?_append_right (by show 2 ≤ i + 2; omega), Array.getElem?_append_right (by show 2 ≤ i + 2; omega)]
    refine ⟨fun _ => rfl, fun _ => Or.inl ⟨rfl, fun v hv => ?_⟩⟩
    rw [Array.getElem?_replicate] at hv
    split at hv
    · cases hv; rfl
    · cases hv

theorem cell_sortWorld {α : Type} [Inhabited α] (enc : α → Value) (w : World) (blk off m : Nat) (dk : Array α) (os : Array Obj) (a : Addr) (hne : a.block ≠ blk) (hlt : a.block < w.heap.size) :
    (sortWorld enc w blk off m dk os).cell? a = w.cell? a := by
  unfold sortWorld
  rw [cell?_grow _ _ _ (by simpa [putRow, mapBlock, Sort.ahead] using hlt), cell?_putRow_other _ _ _ _ _ _ (Or.inl hne)]
  rfl

theorem egFN : ∀ args w, (callFunc 162 args).run prog2 w = .ok (.enter 162 args) w := fun args w => callFunc_enter (p := prog2) (fn := gfn) (c := gbody 119) funcs2_last rfl sit.hNn args w

theorem cmp_places (ls : Nat → Int) (m lb lo n c blk off sz : Nat) (w : World) (hn : n = m + 1) (hm : n < 4611686018427387904)
    (hl : ∀ i, i < n → w.cell? ⟨lb, lo + i, none⟩ = some (.int .i64 (ls i))) (hlb : lb < w.heap.size) (hne : lb ≠ blk) :
    CmpLays1 prog2 162 #[.slice (some ⟨lb, lo, none⟩) n c] (encP m) (cfOf ls m) blk off sz w := by
  intro M os dk _ x y
  have hx : (x : Nat) < n := by omega
  have hy : (y : Nat) < n := by omega
  have c1 : (sortWorld (encP m) w blk off M dk os).cell? ⟨lb, lo + (x : Nat), none⟩ = some (.int .i64 (ls x)) := by rw [cell_sortWorld _ _ _ _ _ _ _ _ hne hlb]; exact hl _ hx
  have c2 : (sortWorld (encP m) w blk off M dk os).cell? ⟨lb, lo + (y : Nat), none⟩ = some (.int .i64 (ls y)) := by rw [cell_sortWorld _ _ _ _ _ _ _ _ hne hlb]; exact hl _ hy
  refine (closure2 ls lb lo n c x y (sortWorld (encP m) w blk off M dk os) hx hy hm c1 c2).mono ?_
  rintro e w' ⟨he, q, hq⟩
  exact ⟨he, q, #[], by rw [hq, grow_empty]⟩

/-- What the sort leaves behind. -/
def Sorts (ls : Nat → Int) (m blk off : Nat) (d : Array (Fin (m + 1))) (w : World) (e : Ending) (w' : World) : Prop :=
  e = .returned (.tuple #[]) ∧ ∃ d' N os, PermIn 0 d.size d d' ∧ SortedIn (ltOf (cfOf ls m)) 0 d.size d' ∧ w' = sortWorld (encP m) w blk off N d' os

theorem sort_places2 (ls : Nat → Int) (m lb lo n c blk off cap : Nat) (d : Array (Fin (m + 1))) (w : World) (hn : n = m + 1) (hm : n < 4611686018427387904) (hd : d.size < 4611686018427387904)
    (hl : ∀ i, i < n → w.cell? ⟨lb, lo + i, none⟩ = some (.int .i64 (ls i))) (hlb : lb < w.heap.size) (hne : lb ≠ blk) (hH : Holds (encP m) w blk off d) (hblk : blk < w.heap.size) :
    Calls prog2 118 #[.slice (some ⟨blk, off, none⟩) d.size cap, .func (.func 162) #[] #[.slice (some ⟨lb, lo, none⟩) n c]] w (Sorts ls m blk off d w) :=
  Any.slices_SortFunc (P := prog2) sortL (encP m) (fun _ => rfl) (cfOf ls m) (swo_cf ls m) 162 #[.slice (some ⟨lb, lo, none⟩) n c] blk off cap d w egFN (cmp_places ls m lb lo n c blk off d.size w hn hm hl hlb hne) hH hblk hd

theorem prog_eq : (⟨Tryz.progTables, Tryz.funcs⟩ : Program) = Tryz.prog := rfl
theorem inFam37 : inFam 118 = true := by kernel_rfl

theorem sort_places1 (s lv : Value) (w : World) (R : Ending → World → Prop) (hR : ∀ e w', R e w' → ∃ v, e = .returned v) (h : Calls prog2 118 #[s, .func (.func 162) #[] #[lv]] w R) :
    Calls Tryz.prog 118 #[s, .func (.func 119) #[lv] #[]] w R := by
  rw [← prog_eq]
  exact calls_swap sit inFam37 (l := lv) (args2 := #[s, V2 162 lv]) (args1 := #[s, V1 119 lv]) rfl (fun n => args_rt _ _ n) hR h

theorem sort_places (ls : Nat → Int) (m lb lo n c blk off cap : Nat) (d : Array (Fin (m + 1))) (w : World) (hn : n = m + 1) (hm : n < 4611686018427387904) (hd : d.size < 4611686018427387904)
    (hl : ∀ i, i < n → w.cell? ⟨lb, lo + i, none⟩ = some (.int .i64 (ls i))) (hlb : lb < w.heap.size) (hne : lb ≠ blk) (hH : Holds (encP m) w blk off d) (hblk : blk < w.heap.size) :
    Calls Tryz.prog 118 #[.slice (some ⟨blk, off, none⟩) d.size cap, .func (.func 119) #[.slice (some ⟨lb, lo, none⟩) n c] #[]] w (Sorts ls m blk off d w) :=
  sort_places1 _ _ w _ (fun _ _ h => ⟨_, h.1⟩) (sort_places2 ls m lb lo n c blk off cap d w hn hm hd hl hlb hne hH hblk)

#print axioms sort_places
end Go.Proofs.YthocnlalahknjaaGreat
