/-
  The program with the closure beside it, and what it shares with the program. Conditions: none.
-/
import Derived.Test.YtdbjfginigekbaaSim8
import Derived.Test.YtdbjfginigekbaaProg
import Derived.KernelRfl
namespace Go.Proofs.Ytdbjfginigekbaa
open Go

/-- slices.SortFunc's family, and the method by which it sorts. -/
def fam : List Nat := [37, 38, 46, 47, 48, 49, 50, 51, 52, 53, 54, 55, 56, 57, 58, 59, 60, 61, 62, 63, 64, 65, 66, 67]
def inFam (g : Nat) : Bool := fam.contains g

/-- The slots that hold 'cmp'. -/
def fsl : Nat → List Nat
  | 37 => [1, 12]
  | 46 => [4, 29, 36, 43, 51, 60, 79, 84, 102, 110, 133, 145]
  | 51 => [3, 22]
  | 52 => [3, 28, 58]
  | 53 => [3]
  | 54 => [3, 39, 43, 47, 53]
  | 55 => [3]
  | 56 => [3, 23, 72, 112]
  | 57 => [4, 35, 54]
  | 58 => [4, 36, 54, 109, 127]
  | 62 => [4, 24, 43]
  | 65 => [3, 16]
  | 66 => [5, 18, 27, 36]
  | 67 => [4, 12]
  | _ => []
def famF (g i : Nat) : Bool := (fsl g).contains i

noncomputable def gfn : Func := { name := "", origin := "", params := #[], resultTypes := #[], nfree := 0, ntmps := 4, results := #[.tmp 3], body := some (gbody 38), norace := false, tmpNames := #[] }

noncomputable def bare (x : Func × Nat) : Func := if inFam x.2 then x.1 else { x.1 with body := none }
noncomputable def funcs2 : Array Func := ((Try.funcs.toList.zipIdx.map bare) ++ [gfn]).toArray

theorem funcs_size : Try.funcs.toList.length = 84 := by kernel_rfl

theorem funcs2_get (g : Nat) (h : inFam g = true) : funcs2[g]? = Try.funcs[g]? := by
  have hl : (Try.funcs.toList.zipIdx.map bare).length = 84 := by simp; exact funcs_size
  have hg : g < 84 := by
    have : g ∈ fam := by simpa [inFam] using h
    have key : ∀ x ∈ fam, x < 84 := by decide
    exact key g this
  show ((Try.funcs.toList.zipIdx.map bare) ++ [gfn]).toArray[g]? = _
  rw [List.getElem?_toArray, List.getElem?_append_left (by rw [hl]; exact hg), List.getElem?_map, List.getElem?_zipIdx]
  simp only [Nat.zero_add, Option.map_map, Array.getElem?_toList]
  cases hc : Try.funcs[g]? with
  | none => rfl
  | some fn => simp [bare, h]

theorem funcs2_last : funcs2[84]? = some gfn := by
  have hl : (Try.funcs.toList.zipIdx.map bare).length = 84 := by simp; exact funcs_size
  show ((Try.funcs.toList.zipIdx.map bare) ++ [gfn]).toArray[84]? = _
  rw [List.getElem?_toArray, List.getElem?_append_right (by omega), hl]
  rfl

noncomputable def okFn (g : Nat) : Bool :=
  match Try.funcs[g]? with
  | some fn => (match fn.body with
    | some c => tameCode (Program.underlying ⟨Try.progTables, Try.funcs⟩) inFam famF (famF g) c && okRes (famF g) fn.results && !(fn.name == "runtime.NumGoroutine")
    | none => false)
  | none => false

set_option maxRecDepth 100000 in
theorem fam_ok : fam.all okFn = true := by kernel_rfl

def noReady (fn : Func) : Bool := match fn.body with
  | some c => (readies c).isEmpty
  | none => true

set_option maxRecDepth 100000 in
theorem noReady_ok : funcs2.toList.all noReady = true := by kernel_rfl

theorem stepOf_none (g : Nat) : Program.stepOf ⟨Try.progTables, funcs2⟩ g = none := by
  show funcs2.findIdx? _ = none
  rw [Array.findIdx?_eq_none_iff]
  intro fn hfn
  have h := List.all_eq_true.mp noReady_ok fn (by simpa using hfn)
  unfold noReady at h
  cases hb : fn.body with
  | none => rfl
  | some c =>
    rw [hb] at h
    have : readies c = [] := by simpa using h
    simp [this]

theorem sit : Sit Try.progTables Try.funcs funcs2 inFam famF 38 84 gfn where
  hS := fun g h => by
    have hm : g ∈ fam := by simpa [inFam] using h
    have ho := List.all_eq_true.mp fam_ok g hm
    unfold okFn at ho
    have h2 := funcs2_get g h
    cases hf : Try.funcs[g]? with
    | none => rw [hf] at ho; exact absurd ho Bool.false_ne_true
    | some fn =>
      rw [hf] at ho
      simp only at ho
      cases hb : fn.body with
      | none => rw [hb] at ho; exact absurd ho Bool.false_ne_true
      | some c =>
        rw [hb] at ho
        simp only [Bool.and_eq_true, Bool.not_eq_true'] at ho
        exact ⟨fn, c, rfl, by rw [h2, hf], hb, ho.1.1, ho.1.2, ho.2⟩
  hk := by kernel_rfl
  hkF := fun _ => rfl
  hN := funcs2_last
  hNb := rfl
  hNr := rfl
  hNt := rfl
  hNn := by kernel_rfl
  hE := stepOf_none
  hA := by kernel_rfl

end Go.Proofs.Ytdbjfginigekbaa
