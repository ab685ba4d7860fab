/- Rows of texts; the contracts of the reference's Same and Size. -/
import Derived.Test.YtghebijikdnikaaK4
import Derived.WideShapes
namespace Go.Proofs.Ytghebijikdnikaa
open Go.RowKit
set_option linter.unusedVariables false

/-- a text as a value -/
def sv (l : List UInt8) : Value := .string ⟨l.toArray⟩
/-- a slice of texts, whole -/
def SRow (w : World) (p : Option Addr) (len : Nat) (ls : List (List UInt8)) : Prop :=
  ls.length = len ∧ (len = 0 ∨ ∃ b off, p = some ⟨b, off, none⟩ ∧ b < w.heap.size ∧ ∀ i, i < len → w.cell? ⟨b, off + i, none⟩ = some (.string ⟨(ls.getD i []).toArray⟩))
theorem SRow.kept {w w' : World} {p : Option Addr} {len : Nat} {ls : List (List UInt8)} (h : SRow w p len ls) (hb : Below w.heap.size w w') : SRow w' p len ls := by
  obtain ⟨h1, h2⟩ := h
  refine ⟨h1, h2.imp id ?_⟩
  rintro ⟨b, off, rfl, hlt, hc⟩
  refine ⟨b, off, rfl, by have := hb.size; omega, fun i hi => ?_⟩
  rw [hb.cell (p := ⟨b, off + i, none⟩) hlt]; exact hc i hi
theorem SRow.drewN {w : World} {p : Option Addr} {len : Nat} {ls : List (List UInt8)} (h : SRow w p len ls) (n : Nat) : SRow (w.drewN n) p len ls := h
theorem text_ne {l m : List UInt8} (h : ¬ l = m) : ((⟨l.toArray⟩ : ByteArray).toList == (⟨m.toArray⟩ : ByteArray).toList) = false := by
  rw [ByteArray.toList_eq, ByteArray.toList_eq, beq_eq_false_iff_ne]
  simpa using h
theorem text_eq (l : List UInt8) : ((⟨l.toArray⟩ : ByteArray).toList == (⟨l.toArray⟩ : ByteArray).toList) = true := by simp
theorem getD_take (ls : List (List UInt8)) (k : Nat) (h : k < ls.length) : ls.take (k + 1) = ls.take k ++ [ls.getD k []] := by
  rw [List.take_succ_eq_append_getElem h, List.getD_eq_getElem?_getD, List.getElem?_eq_getElem h]; rfl
theorem getD_ne (ls ms : List (List UInt8)) (k : Nat) (h : ¬ ls.getD k [] = ms.getD k []) : ¬ ls = ms := fun e => h (by rw [e])

/-- how many bytes there are together, and one more a record; no more are told behind a million -/
def sizeUpto : List (List UInt8) → Nat → Nat
  | [], n => n
  | b :: r, n => if n < 1000000 then sizeUpto r (n + b.length + 1) else n
theorem sizeUpto_all : ∀ (l : List (List UInt8)) (n : Nat), n + tot l ≤ 4000 → sizeUpto l n = n + tot l
  | [], n, _ => by simp [sizeUpto, tot]
  | b :: r, n, h => by
    simp only [tot] at h ⊢
    rw [sizeUpto, if_pos (by omega), sizeUpto_all r _ (by omega)]; omega
theorem sizeUpto_le : ∀ (l : List (List UInt8)) (n : Nat), n ≤ sizeUpto l n
  | [], n => Nat.le_refl _
  | b :: r, n => by
    rw [sizeUpto]
    split
    · have := sizeUpto_le r (n + b.length + 1); omega
    · exact Nat.le_refl _
theorem sizeUpto_big : ∀ (l : List (List UInt8)) (n : Nat), 4000 < n + tot l → 4000 < sizeUpto l n
  | [], n, h => by simpa [sizeUpto, tot] using h
  | b :: r, n, h => by
    simp only [tot] at h
    rw [sizeUpto]
    split
    · exact sizeUpto_big r _ (by omega)
    · omega
theorem sizeUpto_more (ls : List (List UInt8)) (k n : Nat) (hk : k < ls.length) (hn : n < 1000000) : sizeUpto (ls.drop k) n = sizeUpto (ls.drop (k + 1)) (n + (ls.getD k []).length + 1) := by
  rw [List.drop_eq_getElem_cons hk, sizeUpto, if_pos hn, List.getD_eq_getElem?_getD, List.getElem?_eq_getElem hk]; rfl
theorem sizeUpto_stop (ls : List (List UInt8)) (k n : Nat) (h : ¬ (k < ls.length ∧ n < 1000000)) : sizeUpto (ls.drop k) n = n := by
  by_cases hk : k < ls.length
  · rw [List.drop_eq_getElem_cons hk, sizeUpto, if_neg (by omega)]
  · rw [List.drop_eq_nil_of_le (by omega)]; rfl

/-- every text is no longer than a text may be -/
def Short (ls : List (List UInt8)) : Prop := ∀ k, (ls.getD k []).length ≤ 281474976710656

end Go.Proofs.Ytghebijikdnikaa
