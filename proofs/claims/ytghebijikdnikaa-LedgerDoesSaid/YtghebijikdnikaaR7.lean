/- The contracts of the reference's Total and Chain. -/
import Derived.Test.YtghebijikdnikaaR6
import Derived.Test.YtghebijikdnikaaB1
namespace Go.Proofs.Ytghebijikdnikaa
open Go.RowKit
set_option linter.unusedVariables false

theorem fit_any (v : Value) (L : Nat) (N : Int) (w : World) (h : IsB w v L N) (hL : L ≤ 90000) :
    Calls Try.prog 30 #[v] w fun e w' => e = .returned (.tuple #[.int .i64 (fitRV N), .int .i64 (fitRE N)]) ∧ Below w.heap.size w w' := by
  by_cases hlow : N < -9223372036854775808
  · refine (fit_low v (L + 5) N w (h.wide (by omega)) (by omega) (by omega) hlow).mono fun e w' ⟨he, hb⟩ => ⟨?_, hb⟩
    rw [he]
    unfold fitRV fitRE
    rw [if_neg (by omega), if_neg (by omega)]
  · refine fit_test v (L + 5) N _ _ _ w (h.wide (by omega)) (by omega) (by omega) (by omega) rfl ?_ rfl rfl ?_
    · unfold cmp3
      split
      · rfl
      · first | rfl | (rw [if_neg hlow]; rfl)
    · show decide _ = decide _
      unfold cmp3
      by_cases hh : 9223372036854775807 < N
      · rw [if_pos hh]; simp [hh]
      · rw [if_neg hh]
        split <;> simp <;> omega

theorem Seq64.at {w W : World} {p : Option Addr} {len : Nat} {zs : List Int} (h : Seq64 w p len zs) (hb : Below w.heap.size w W) {k : Nat} (hk : k < len) :
    ∃ b off, p = some ⟨b, off, none⟩ ∧ b < w.heap.size ∧ W.cell? ⟨b, off + k, none⟩ = some (.int .i64 (zs.getD k 0)) := by
  obtain ⟨_, _, _, h4⟩ := h
  obtain ⟨b, off, e, hlt, hc⟩ := h4.resolve_left (by omega)
  exact ⟨b, off, e, hlt, (hb.cell (p := ⟨b, off + k, none⟩) hlt).trans (hc k hk)⟩

/-- a Big that is kept in block b, with the result's in block r -/
structure Acc (W : World) (b r : Nat) (L : Nat) (N : Int) (n : Bool) (p : Option Addr) (l c : Nat) : Prop where
  c0 : W.cell? ⟨b, 0, none⟩ = some (.bool n)
  c1 : W.cell? ⟨b, 1, none⟩ = some (.slice p l c)
  f0 : W.frozen? ⟨b, 0, none⟩ = false
  f1 : W.frozen? ⟨b, 1, none⟩ = false
  box : Box W b
  res : Box W r
  isB : IsB W (.agg #[.bool n, .slice p l c]) L N
  lt : r < b
theorem Acc.kept {W W' : World} {b r L : Nat} {N : Int} {n : Bool} {p : Option Addr} {l c : Nat} (h : Acc W b r L N n p l c) (hb : Below W.heap.size W W') : Acc W' b r L N n p l c :=
  ⟨(hb.cell (p := ⟨b, 0, none⟩) h.box.lt).trans h.c0, (hb.cell (p := ⟨b, 1, none⟩) h.box.lt).trans h.c1, (hb.frozen (p := ⟨b, 0, none⟩) h.box.lt).trans h.f0, (hb.frozen (p := ⟨b, 1, none⟩) h.box.lt).trans h.f1, h.box.stays hb, h.res.stays hb, h.isB.kept hb, h.lt⟩
theorem Acc.drew {W : World} {b r L : Nat} {N : Int} {n : Bool} {p : Option Addr} {l c : Nat} (h : Acc W b r L N n p l c) : Acc W.drew b r L N n p l c := ⟨h.c0, h.c1, h.f0, h.f1, h.box, h.res, h.isB, h.lt⟩
theorem Box.set {w : World} {B : Nat} (h : Box w B) (x : Bool) (q : Option Addr) (l c : Nat) : Box ((w.setCell ⟨B, 0, none⟩ (.bool x)).setCell ⟨B, 1, none⟩ (.slice q l c)) B := by
  obtain ⟨x', q', l', c', e⟩ := h
  refine ⟨x, q, l, c, ?_⟩
  simp [World.setCell, Array.getElem?_modify, e]
theorem Box.other {w : World} {B : Nat} (h : Box w B) {a : Addr} (hne : B ≠ a.block) (u : Value) : Box (w.setCell a u) B := by
  obtain ⟨x', q', l', c', e⟩ := h
  exact ⟨x', q', l', c', (Below.heap_setCell w a u B hne).trans e⟩
theorem IsB.store {w : World} {B : Nat} {v : Value} {L : Nat} {N : Int} (h : IsB w v L N) (hb : Box w B) (u u' : Value) : IsB ((w.setCell ⟨B, 0, none⟩ u).setCell ⟨B, 1, none⟩ u') v L N := by
  obtain ⟨neg, p, len, cap, ds, h1, h2, h3⟩ := h
  exact ⟨neg, p, len, cap, ds, h1, hb.stored h2 u u', h3⟩
theorem Acc.put {W : World} {b r : Nat} {L : Nat} {N : Int} {n : Bool} {p : Option Addr} {l c : Nat} (hb : Box W b) (hr : Box W r) (hlt : r < b) (h : IsB W (.agg #[.bool n, .slice p l c]) L N) :
    Acc ((W.setCell ⟨b, 0, none⟩ (.bool n)).setCell ⟨b, 1, none⟩ (.slice p l c)) b r L N n p l c := by
  have hb' := hb.set n p l c
  obtain ⟨x, q, l', c', e0, e1, e2, e3⟩ := hb'.cells
  obtain ⟨y0, y1, y2, y3, y4, y5, y6, y7⟩ := hb.cells
  clear e0 e1
  exact ⟨by go_simp, by go_simp, e2, e3, hb', (hr.other (by simp; omega) _).other (by simp; omega) _, h.store hb _ _, hlt⟩

end Go.Proofs.Ytghebijikdnikaa
