/-
  slices.SortFunc and cmp.Compare lie in the program with the closure beside it as in the program. Conditions: none.
-/
import Derived.Test.YtdbjfginigekbaaSim9
import Derived.Shelf.SlicesG.Cmp
import Derived.Shelf.SlSortCmp.Whole1
namespace Go.Proofs.Ytdbjfginigekbaa
open Go Go.Shelf

noncomputable def prog2 : Program := ⟨Try.progTables, funcs2⟩

theorem get2 (g : Nat) (h : inFam g = true) : prog2.funcs[g]? = Try.prog.funcs[g]? := funcs2_get g h
theorem und2 {t : TypeId} {x : Option TypeDesc} (h : Try.prog.underlying t = x) : prog2.underlying t = x := h
theorem isAgg2 {t : TypeId} {b : Bool} (h : ∀ w, (isAgg t).run Try.prog w = .ok b w) : ∀ w, (isAgg t).run prog2 w = .ok b w :=
  fun w => (Tab.run Try.progTables Try.funcs funcs2 (tab_isAgg t) w).1.symm.trans (h w)
theorem sizeOf2 {t : TypeId} {b : Nat} (h : ∀ w, (Go.sizeOf t).run Try.prog w = .ok b w) : ∀ w, (Go.sizeOf t).run prog2 w = .ok b w :=
  fun w => (Tab.run Try.progTables Try.funcs funcs2 (tab_sizeOf t) w).1.symm.trans (h w)
theorem zeroValue2 {t : TypeId} {b : Value} (h : ∀ w, (zeroValue t).run Try.prog w = .ok b w) : ∀ w, (zeroValue t).run prog2 w = .ok b w :=
  fun w => (Tab.run Try.progTables Try.funcs funcs2 (tab_zeroValue t) w).1.symm.trans (h w)

def cmp64L_ren : Go.Shelf.Ren := ⟨fun | 5 => 48 | 7 => 60 | n => n, fun | 22 => 2 | 3 => 3 | 4 => 4 | n => n, fun | n => n⟩
theorem cmp64L : Go.Proofs.SlLaysC2.n5 prog2 cmp64L_ren := {
  mixed := by kernel_rfl
  f5 := ⟨Try.f48.name, by decide, (get2 48 rfl).trans <| Try.func48.trans (congrArg some (by kernel_rfl))⟩
  f7 := ⟨Try.f60.name, by decide, (get2 60 rfl).trans <| Try.func60.trans (congrArg some (by kernel_rfl))⟩
  t3 := und2 Try.underlying3
  a3 := isAgg2 Try.isAgg3
  z3 := sizeOf2 Try.sizeOf3
  v3 := zeroValue2 Try.zeroValue3
  t4 := und2 Try.underlying4
  a4 := isAgg2 Try.isAgg4
  z4 := sizeOf2 Try.sizeOf4
  v4 := zeroValue2 Try.zeroValue4
  t22 := und2 Try.underlying2
  a22 := isAgg2 Try.isAgg2
  z22 := sizeOf2 Try.sizeOf2
  v22 := zeroValue2 Try.zeroValue2 }
def cmpIntL_ren : Go.Shelf.Ren := ⟨fun | 5 => 49 | 7 => 61 | n => n, fun | 22 => 3 | 3 => 3 | 4 => 4 | n => n, fun | n => n⟩
theorem cmpIntL : Go.Proofs.SlLaysC2.n5 prog2 cmpIntL_ren := {
  mixed := by kernel_rfl
  f5 := ⟨Try.f49.name, by decide, (get2 49 rfl).trans <| Try.func49.trans (congrArg some (by kernel_rfl))⟩
  f7 := ⟨Try.f61.name, by decide, (get2 61 rfl).trans <| Try.func61.trans (congrArg some (by kernel_rfl))⟩
  t3 := und2 Try.underlying3
  a3 := isAgg2 Try.isAgg3
  z3 := sizeOf2 Try.sizeOf3
  v3 := zeroValue2 Try.zeroValue3
  t4 := und2 Try.underlying4
  a4 := isAgg2 Try.isAgg4
  z4 := sizeOf2 Try.sizeOf4
  v4 := zeroValue2 Try.zeroValue4
  t22 := und2 Try.underlying3
  a22 := isAgg2 Try.isAgg3
  z22 := sizeOf2 Try.sizeOf3
  v22 := zeroValue2 Try.zeroValue3 }
def sortL_ren : Go.Shelf.Ren := ⟨fun | 6 => 37 | 15 => 47 | 14 => 46 | 28 => 59 | 29 => 50 | 20 => 51 | 21 => 52 | 22 => 53 | 23 => 54 | 24 => 55 | 25 => 56 | 26 => 57 | 27 => 58 | 46 => 62 | 47 => 63 | 48 => 64 | 49 => 65 | 50 => 66 | 57 => 67 | n => n, fun | 22 => 41 | 24 => 3 | 25 => 67 | 3 => 3 | 39 => 69 | 0 => 0 | 53 => 88 | 55 => 54 | 4 => 4 | 46 => 81 | 45 => 80 | 50 => 85 | 5 => 5 | 9 => 9 | 66 => 91 | 70 => 95 | 76 => 97 | 77 => 98 | n => n, fun | n => n⟩
theorem sortL : Go.Proofs.SlLaysF.n6 prog2 sortL_ren := {
  mixed := by kernel_rfl
  f6 := ⟨Try.f37.name, by decide, (get2 37 rfl).trans <| Try.func37.trans (congrArg some (by kernel_rfl))⟩
  f14 := ⟨Try.f46.name, by decide, (get2 46 rfl).trans <| Try.func46.trans (congrArg some (by kernel_rfl))⟩
  f15 := (get2 47 rfl).trans <| Try.func47.trans (congrArg some (by kernel_rfl))
  f20 := ⟨Try.f51.name, by decide, (get2 51 rfl).trans <| Try.func51.trans (congrArg some (by kernel_rfl))⟩
  f21 := ⟨Try.f52.name, by decide, (get2 52 rfl).trans <| Try.func52.trans (congrArg some (by kernel_rfl))⟩
  f22 := ⟨Try.f53.name, by decide, (get2 53 rfl).trans <| Try.func53.trans (congrArg some (by kernel_rfl))⟩
  f23 := ⟨Try.f54.name, by decide, (get2 54 rfl).trans <| Try.func54.trans (congrArg some (by kernel_rfl))⟩
  f24 := ⟨Try.f55.name, by decide, (get2 55 rfl).trans <| Try.func55.trans (congrArg some (by kernel_rfl))⟩
  f25 := ⟨Try.f56.name, by decide, (get2 56 rfl).trans <| Try.func56.trans (congrArg some (by kernel_rfl))⟩
  f26 := ⟨Try.f57.name, by decide, (get2 57 rfl).trans <| Try.func57.trans (congrArg some (by kernel_rfl))⟩
  f27 := ⟨Try.f58.name, by decide, (get2 58 rfl).trans <| Try.func58.trans (congrArg some (by kernel_rfl))⟩
  f28 := (get2 59 rfl).trans <| Try.func59.trans (congrArg some (by kernel_rfl))
  f29 := (get2 50 rfl).trans <| Try.func50.trans (congrArg some (by kernel_rfl))
  f46 := ⟨Try.f62.name, by decide, (get2 62 rfl).trans <| Try.func62.trans (congrArg some (by kernel_rfl))⟩
  f47 := (get2 63 rfl).trans <| Try.func63.trans (congrArg some (by kernel_rfl))
  f48 := (get2 64 rfl).trans <| Try.func64.trans (congrArg some (by kernel_rfl))
  f49 := ⟨Try.f65.name, by decide, (get2 65 rfl).trans <| Try.func65.trans (congrArg some (by kernel_rfl))⟩
  f50 := ⟨Try.f66.name, by decide, (get2 66 rfl).trans <| Try.func66.trans (congrArg some (by kernel_rfl))⟩
  f57 := ⟨Try.f67.name, by decide, (get2 67 rfl).trans <| Try.func67.trans (congrArg some (by kernel_rfl))⟩
  t0 := und2 Try.underlying0
  a0 := isAgg2 Try.isAgg0
  z0 := sizeOf2 Try.sizeOf0
  v0 := zeroValue2 Try.zeroValue0
  t3 := und2 Try.underlying3
  a3 := isAgg2 Try.isAgg3
  z3 := sizeOf2 Try.sizeOf3
  v3 := zeroValue2 Try.zeroValue3
  t4 := und2 Try.underlying4
  a4 := isAgg2 Try.isAgg4
  z4 := sizeOf2 Try.sizeOf4
  v4 := zeroValue2 Try.zeroValue4
  t5 := und2 Try.underlying5
  a5 := isAgg2 Try.isAgg5
  z5 := sizeOf2 Try.sizeOf5
  v5 := zeroValue2 Try.zeroValue5
  t9 := und2 Try.underlying9
  a9 := isAgg2 Try.isAgg9
  z9 := sizeOf2 Try.sizeOf9
  v9 := zeroValue2 Try.zeroValue9
  t22 := und2 Try.underlying41
  a22 := isAgg2 Try.isAgg41
  z22 := sizeOf2 Try.sizeOf41
  v22 := zeroValue2 Try.zeroValue41
  a24 := isAgg2 Try.isAgg3
  z24 := sizeOf2 Try.sizeOf3
  t25 := und2 Try.underlying67
  a25 := isAgg2 Try.isAgg67
  z25 := sizeOf2 Try.sizeOf67
  v25 := zeroValue2 Try.zeroValue67
  t39 := und2 Try.underlying69
  a39 := isAgg2 Try.isAgg69
  z39 := sizeOf2 Try.sizeOf69
  v39 := zeroValue2 Try.zeroValue69
  t45 := und2 Try.underlying80
  a45 := isAgg2 Try.isAgg80
  z45 := sizeOf2 Try.sizeOf80
  v45 := zeroValue2 Try.zeroValue80
  t46 := und2 Try.underlying81
  a46 := isAgg2 Try.isAgg81
  z46 := sizeOf2 Try.sizeOf81
  v46 := zeroValue2 Try.zeroValue81
  t50 := und2 Try.underlying85
  a50 := isAgg2 Try.isAgg85
  z50 := sizeOf2 Try.sizeOf85
  v50 := zeroValue2 Try.zeroValue85
  t53 := und2 Try.underlying88
  a53 := isAgg2 Try.isAgg88
  z53 := sizeOf2 Try.sizeOf88
  v53 := zeroValue2 Try.zeroValue88
  t55 := und2 Try.underlying54
  a55 := isAgg2 Try.isAgg54
  z55 := sizeOf2 Try.sizeOf54
  v55 := zeroValue2 Try.zeroValue54
  t66 := und2 Try.underlying91
  a66 := isAgg2 Try.isAgg91
  z66 := sizeOf2 Try.sizeOf91
  v66 := zeroValue2 Try.zeroValue91
  t70 := und2 Try.underlying95
  a70 := isAgg2 Try.isAgg95
  z70 := sizeOf2 Try.sizeOf95
  v70 := zeroValue2 Try.zeroValue95
  t76 := und2 Try.underlying97
  a76 := isAgg2 Try.isAgg97
  z76 := sizeOf2 Try.sizeOf97
  v76 := zeroValue2 Try.zeroValue97
  t77 := und2 Try.underlying98
  a77 := isAgg2 Try.isAgg98
  z77 := sizeOf2 Try.sizeOf98
  v77 := zeroValue2 Try.zeroValue98 }

end Go.Proofs.Ytdbjfginigekbaa
