/- A ledger and worths that lie apart; a guard in memory; the contracts of members, has, hasCurrency, Flagged, netAndShort, balances, Fails, passes, flagAll, flagBehind. -/
import Derived.Test.YtiehbbhjpcnbnaaGreatMAO
import Derived.Test.YtiehbbhjpcnbnaaGreatWE
import Derived.Test.YtiehbbhjpcnbnaaGreatMAK
import Derived.Test.YtiehbbhjpcnbnaaGreatLI1
namespace Go.Proofs.YtiehbbhjpcnbnaaGreat
open Go.RowKit
set_option linter.unusedVariables false

/-- a call of the first one's that reads the second one -/
theorem Apart.call2 {α : Type} {G : Nat → Prop} {X Y : (Nat → Prop) → World → Prop} {X' : α → (Nat → Prop) → World → Prop} {φ : α → Ending → Prop} {w : World} {f : FuncId} {args : Array Value}
    (lX : Live X) (lX' : ∀ x, Live (X' x)) (lY : Live Y) (hG : ∀ j, G j → j < w.heap.size) (h : Apart G X Y w)
    (hc : ∀ P Q : Nat → Prop, X P w → Y Q w → (∀ i, w.heap.size ≤ i → P i) → (∀ j, Q j → ¬ P j) → Calls Tryz.prog f args w fun e w' => ∃ x, φ x e ∧ X' x P w' ∧ Kp P w w') :
    Calls Tryz.prog f args w fun e w' => ∃ x, φ x e ∧ Apart G (X' x) Y w' ∧ Kp (fun j => ¬ G j) w w' := by
  obtain ⟨PF, RF, hX, hY, h1, h2⟩ := h
  refine (hc (fun j => PF j ∨ w.heap.size ≤ j) RF (lX.weak hX fun j _ hj => .inl hj) hY (fun i hi => .inr hi) (fun j hr hp => by
    rcases hp with hp | hp
    · exact (h1 j hp).1 hr
    · have := (h2 j hr).2; omega)).mono ?_
  rintro e w' ⟨x, he, hx, hK⟩
  refine ⟨x, he, ⟨fun j => (PF j ∨ w.heap.size ≤ j) ∧ j < w'.heap.size, RF, (lX' x).weak hx fun j hl hj => ⟨hj, hl⟩, lY.kept hY hK fun j hl hr hp => ?_, fun j hj => ⟨fun hr => ?_, fun hg => ?_, hj.2⟩, fun j hj => ⟨(h2 j hj).1, Nat.lt_of_lt_of_le (h2 j hj).2 hK.size⟩⟩, hK.mono fun j hl hp hg => ?_⟩
  · rcases hp with hp | hp
    · exact (h1 j hp).1 hr
    · omega
  · rcases hj.1 with hp | hp
    · exact (h1 j hp).1 hr
    · have := (h2 j hr).2; omega
  · rcases hj.1 with hp | hp
    · exact (h1 j hp).2.1 hg
    · have := hG j hg; omega
  · rcases hp with hp | hp
    · exact (h1 j hp).2.1 hg
    · omega
theorem Apart.less {G G' : Nat → Prop} {X Y : (Nat → Prop) → World → Prop} {w : World} (h : Apart G' X Y w) (hG : ∀ j, G j → G' j) : Apart G X Y w := by
  obtain ⟨PF, RF, hX, hY, h1, h2⟩ := h
  exact ⟨PF, RF, hX, hY, fun j hj => ⟨(h1 j hj).1, fun hg => (h1 j hj).2.1 (hG j hg), (h1 j hj).2.2⟩, fun j hj => ⟨fun hg => (h2 j hj).1 (hG j hg), (h2 j hj).2⟩⟩

/-- k members are taken anew -/
def WM.all (x : WM) (l : LM) (k : Nat) : WM := ⟨x.cs, x.nm, fun a => if a < k then l.row a else x.S a⟩
theorem all_zero (x : WM) (l : LM) : x.all l 0 = x := by unfold WM.all; simp
theorem all_step (x : WM) (l : LM) {k : Nat} (hk : k < x.nm) : (x.all l k).moved l (k : Int) = x.all l (k + 1) := by
  unfold WM.moved WM.has WM.all
  dsimp only
  rw [if_pos (by simp; omega), Int.toNat_natCast]
  congr 1
  funext a
  by_cases e : a = k
  · subst e; rw [if_pos rfl, if_pos (by omega)]
  · rw [if_neg e]
    by_cases e2 : a < k
    · rw [if_pos e2, if_pos (by omega)]
    · rw [if_neg e2, if_neg (by omega)]
theorem all_nm (x : WM) (l : LM) (k : Nat) : (x.all l k).nm = x.nm := rfl

/-- a ledger and worths of it, behind what stays -/
structure WSt (G : Nat → Prop) (lb b : Nat) (l : LM) (x : WM) (w : World) : Prop where
  ap : Apart G (fun P w => WP P w b lb x) (fun P w => PL P w lb l) w
  good : l.Good
  lt : ∀ j, G j → j < w.heap.size
section
variable {G : Nat → Prop} {lb b : Nat} {l : LM} {x : WM} {w w' : World}
theorem WSt.below (h : WSt G lb b l x w) (hb : Below w.heap.size w w') : WSt G lb b l x w' := ⟨h.ap.below (WP.live b lb x) (PL.live lb l) hb, h.good, fun j hj => Nat.lt_of_lt_of_le (h.lt j hj) hb.size⟩
theorem WSt.wp (h : WSt G lb b l x w) : ∃ P, WP P w b lb x := by obtain ⟨PF, RF, hX, hY, _⟩ := h.ap; exact ⟨PF, hX⟩
theorem WSt.pl (h : WSt G lb b l x w) : ∃ P, PL P w lb l := by obtain ⟨PF, RF, hX, hY, _⟩ := h.ap; exact ⟨RF, hY⟩
def DoneW (G : Nat → Prop) (lb b : Nat) (r : Int × LM × WM) (w : World) (e : Ending) (w' : World) : Prop := e = .returned (.int .i64 r.1) ∧ WSt G lb b r.2.1 r.2.2 w' ∧ Kp (fun j => ¬ G j) w w'
theorem WSt.inn (h : WSt G lb b l x w) (m c a : Int) (ha : In64 a) : Calls Tryz.prog 44 #[.pointer (some ⟨lb, 0, none⟩), .int .i64 m, .int .i64 c, .int .i64 a] w (DoneW G lb b ((l.inn m c a).1, (l.inn m c a).2, x) w) := by
  refine (h.ap.swap.call (α := Unit) (X' := fun _ P w => PL P w lb (l.inn m c a).2) (φ := fun _ e => e = .returned (.int .i64 (l.inn m c a).1)) (PL.live lb l) (fun _ => PL.live lb _) (WP.live b lb x) h.lt fun P hP hf => (in_any P lb l m c a w hP h.good ha hf).mono fun e w' ⟨h1, h2, h3⟩ => ⟨(), h1, h2, h3⟩).mono ?_
  rintro e w' ⟨_, he, hA, hK⟩
  exact ⟨he, ⟨hA.swap, (inn_good h.good m c a).1, fun j hj => Nat.lt_of_lt_of_le (h.lt j hj) hK.size⟩, hK⟩
theorem WSt.post (h : WSt G lb b l x w) (p : Option Addr) (len cap : Nat) (ps : List Pst) (hr : PRow w p len ps) (hl : len ≤ 30) : Calls Tryz.prog 16 #[.pointer (some ⟨lb, 0, none⟩), .slice p len cap] w (DoneW G lb b ((l.post ps).1, (l.post ps).2, x) w) := by
  refine (h.ap.swap.call (α := Unit) (X' := fun _ P w => PL P w lb (l.post ps).2) (φ := fun _ e => e = .returned (.int .i64 (l.post ps).1)) (PL.live lb l) (fun _ => PL.live lb _) (WP.live b lb x) h.lt fun P hP hf => (post_any P lb l p len cap ps w hP h.good hr hl hf).mono fun e w' ⟨h1, h2, h3⟩ => ⟨(), h1, h2, h3⟩).mono ?_
  rintro e w' ⟨_, he, hA, hK⟩
  exact ⟨he, ⟨hA.swap, (post_good h.good ps).1, fun j hj => Nat.lt_of_lt_of_le (h.lt j hj) hK.size⟩, hK⟩
theorem WSt.moved (h : WSt G lb b l x w) (m : Int) : Calls Tryz.prog 45 #[.pointer (some ⟨b, 0, none⟩), .int .i64 m] w fun e w' => e = .returned (.tuple #[]) ∧ WSt G lb b l (x.moved l m) w' ∧ Kp (fun j => ¬ G j) w w' := by
  refine (h.ap.call2 (α := Unit) (X' := fun _ P w => WP P w b lb (x.moved l m)) (φ := fun _ e => e = .returned (.tuple #[])) (WP.live b lb x) (fun _ => WP.live b lb _) (PL.live lb l) h.lt fun P Q hP hQ hf hd => (moved_any m w hQ h.good hP hd).mono fun e w' ⟨h1, h2, h3⟩ => ⟨(), h1, h2, h3⟩).mono ?_
  rintro e w' ⟨_, he, hA, hK⟩
  exact ⟨he, ⟨hA, h.good, fun j hj => Nat.lt_of_lt_of_le (h.lt j hj) hK.size⟩, hK⟩
end
theorem WSt.less {G G' : Nat → Prop} {lb b : Nat} {l : LM} {x : WM} {w : World} (h : WSt G' lb b l x w) (hG : ∀ j, G j → G' j) : WSt G lb b l x w := ⟨h.ap.less hG, h.good, fun j hj => h.lt j (hG j hj)⟩
theorem WSt.more {G G' : Nat → Prop} {lb b : Nat} {l : LM} {x : WM} {w w' : World} (h : WSt G lb b l x w) (hb : Below w.heap.size w w') (hG : ∀ j, j < w.heap.size → G' j → G j) (hl : ∀ j, G' j → j < w'.heap.size) : WSt G' lb b l x w' := ⟨h.ap.more (WP.live b lb x) (PL.live lb l) hb hG, h.good, hl⟩

/-- worths made of a ledger lie apart from it -/
theorem WSt.made {G : Nat → Prop} {PF : Nat → Prop} {wr w' : World} {lb b : Nat} {l : LM} {x : WM} (hL : PL PF wr lb l) (hg : l.Good) (hp : ∀ j, j < wr.heap.size → PF j → ¬ G j) (hGl : ∀ j, G j → j < wr.heap.size) (hW : WP (fun j => wr.heap.size ≤ j) w' b lb x) (hb : Below wr.heap.size wr w') : WSt G lb b l x w' := by
  refine ⟨⟨fun j => wr.heap.size ≤ j ∧ j < w'.heap.size, fun j => PF j ∧ j < wr.heap.size, (WP.live b lb x).weak hW fun j hj hp => ⟨hp, hj⟩,
    (PL.live lb l).kept ((PL.live lb l).weak hL (fun j hj hp => ⟨hp, hj⟩)) (Kp.of_below (F := fun _ => False) hb) (fun _ _ _ h => h), fun j hj => ⟨fun h => by omega, fun h => by have := hGl j h; omega, hj.2⟩, fun j hj => ⟨fun h => hp j hj.2 hj.1 h, Nat.lt_of_lt_of_le hj.2 hb.size⟩⟩, hg, fun j hj => Nat.lt_of_lt_of_le (hGl j hj) hb.size⟩


/-- a write to what stays -/
theorem Apart.kp {G F : Nat → Prop} {X Y : (Nat → Prop) → World → Prop} {w w' : World} (lX : Live X) (lY : Live Y) (h : Apart G X Y w) (hK : Kp F w w') (hF : ∀ j, F j → G j) : Apart G X Y w' := by
  obtain ⟨PF, RF, hX, hY, h1, h2⟩ := h
  exact ⟨PF, RF, lX.kept hX hK fun j _ hp hf => (h1 j hp).2.1 (hF j hf), lY.kept hY hK fun j _ hp hf => (h2 j hp).1 (hF j hf), fun j hj => ⟨(h1 j hj).1, (h1 j hj).2.1, Nat.lt_of_lt_of_le (h1 j hj).2.2 hK.size⟩, fun j hj => ⟨(h2 j hj).1, Nat.lt_of_lt_of_le (h2 j hj).2 hK.size⟩⟩
theorem WSt.kp {G F : Nat → Prop} {lb b : Nat} {l : LM} {x : WM} {w w' : World} (h : WSt G lb b l x w) (hK : Kp F w w') (hF : ∀ j, F j → G j) : WSt G lb b l x w' := ⟨h.ap.kp (WP.live b lb x) (PL.live lb l) hK hF, h.good, fun j hj => Nat.lt_of_lt_of_le (h.lt j hj) hK.size⟩

/-- flags in memory -/
def FR (w : World) (g : Nat) (fl : Nat → Bool) (n : Nat) : Prop := ∃ cs, w.heap[g]? = some (.cells cs 4 (0, 0)) ∧ ∀ m, m < n → cs[m]? = some (.bool (fl m))
theorem FR.lt {w : World} {g n : Nat} {fl : Nat → Bool} (h : FR w g fl n) : g < w.heap.size := by obtain ⟨cs, h, _⟩ := h; exact obj_lt h
theorem FR.at {w w' : World} {g n : Nat} {fl : Nat → Bool} (h : FR w g fl n) (hb : w'.heap[g]? = w.heap[g]?) : FR w' g fl n := by obtain ⟨cs, h1, h2⟩ := h; exact ⟨cs, hb.trans h1, h2⟩
theorem FR.cell {w : World} {g n m : Nat} {fl : Nat → Bool} (h : FR w g fl n) (hm : m < n) : w.cell? ⟨g, m, none⟩ = some (.bool (fl m)) := by obtain ⟨cs, h1, h2⟩ := h; exact obj_cell h1 (h2 m hm)
theorem FR.free {w : World} {g n : Nat} {fl : Nat → Bool} (h : FR w g fl n) (i : Nat) : w.frozen? ⟨g, i, none⟩ = false := by obtain ⟨cs, h1, _⟩ := h; exact obj_free h1 i
theorem FR.set {w : World} {g n m : Nat} {fl : Nat → Bool} (h : FR w g fl n) (hm : m < n) (v : Bool) : FR (w.setCell ⟨g, m, none⟩ (.bool v)) g (upd fl m v) n := by
  obtain ⟨cs, h1, h2⟩ := h
  have hlt : m < cs.size := by have := h2 m hm; exact (Array.getElem?_eq_some_iff.1 this).1
  refine ⟨cs.set! m (.bool v), obj_set h1 m _, fun k hk => ?_⟩
  unfold upd
  by_cases e : k = m
  · subst e
    rw [if_pos rfl, Array.set!_eq_setIfInBounds, Array.getElem?_setIfInBounds_self_of_lt hlt]
  · rw [if_neg e, Array.set!_eq_setIfInBounds, Array.getElem?_setIfInBounds_ne (Ne.symm e)]
    exact h2 k hk
theorem FR.congr {w : World} {g n : Nat} {fl fm : Nat → Bool} (h : FR w g fl n) (e : ∀ m, m < n → fl m = fm m) : FR w g fm n := by
  obtain ⟨cs, h1, h2⟩ := h; exact ⟨cs, h1, fun m hm => by rw [← e m hm]; exact h2 m hm⟩
theorem Seq64.atB {w w' : World} {g n : Nat} {zs : List Int} (h : Seq64 w (some ⟨g, 0, none⟩) n zs) (hg : g < w.heap.size) (hs : w.heap.size ≤ w'.heap.size) (hb : w'.heap[g]? = w.heap[g]?) : Seq64 w' (some ⟨g, 0, none⟩) n zs := by
  obtain ⟨h1, h2, h3, h4⟩ := h
  refine ⟨h1, h2, h3, h4.imp id ?_⟩
  rintro ⟨b, off, e, hlt, hc⟩
  injection e with e
  injection e with e1 e2
  subst e1; subst e2
  exact ⟨_, _, rfl, Nat.lt_of_lt_of_le hlt hs, fun i hi => (World.cell?_of_block (w := w) hb).trans (hc i hi)⟩
/-- limits in memory, of S's blocks -/
def LR (S : Nat → Prop) (w : World) (gL nc n : Nat) (L : Nat → Lim) : Prop := ∃ cs, w.heap[gL]? = some (.cells cs 58 (0, 0)) ∧
  ∀ m, m < n → ∃ g c, cs[m * 2]? = some (.slice (some ⟨g, 0, none⟩) nc c) ∧ cs[m * 2 + 1]? = some (.int .i64 (L m).all) ∧ S g ∧ g < w.heap.size ∧ Seq64 w (some ⟨g, 0, none⟩) nc (L m).xs ∧ (∀ c, 0 ≤ (L m).sh c) ∧ In64 (L m).all
theorem LR.lt {S : Nat → Prop} {w : World} {gL nc n : Nat} {L : Nat → Lim} (h : LR S w gL nc n L) : gL < w.heap.size := by obtain ⟨cs, h, _⟩ := h; exact obj_lt h
theorem LR.at {S : Nat → Prop} {w w' : World} {gL nc n : Nat} {L : Nat → Lim} (h : LR S w gL nc n L) (hs : w.heap.size ≤ w'.heap.size) (hb : w'.heap[gL]? = w.heap[gL]?) (hS : ∀ j, j < w.heap.size → S j → w'.heap[j]? = w.heap[j]?) : LR S w' gL nc n L := by
  obtain ⟨cs, h1, h2⟩ := h
  refine ⟨cs, hb.trans h1, fun m hm => ?_⟩
  obtain ⟨g, c, a1, a2, a3, a4, a5, a6⟩ := h2 m hm
  exact ⟨g, c, a1, a2, a3, Nat.lt_of_lt_of_le a4 hs, a5.atB a4 hs (hS g a4 a3), a6⟩
theorem LR.weak {S S' : Nat → Prop} {w : World} {gL nc n : Nat} {L : Nat → Lim} (h : LR S w gL nc n L) (hS : ∀ j, j < w.heap.size → S j → S' j) : LR S' w gL nc n L := by
  obtain ⟨cs, h1, h2⟩ := h
  refine ⟨cs, h1, fun m hm => ?_⟩
  obtain ⟨g, c, a1, a2, a3, a4, a5⟩ := h2 m hm
  exact ⟨g, c, a1, a2, hS g a4 a3, a4, a5⟩

def gArr (lb b gL cL gF cF n : Nat) : Array Value := #[.pointer (some ⟨lb, 0, none⟩), .pointer (some ⟨b, 0, none⟩), .slice (some ⟨gL, 0, none⟩) n cL, .slice (some ⟨gF, 0, none⟩) n cF]
/-- a guard in memory, beside what stays -/
structure GS (G S : Nat → Prop) (gb lb b gL cL gF cF : Nat) (l : LM) (x : WM) (L : Nat → Lim) (fl : Nat → Bool) (w : World) : Prop where
  st : WSt G lb b l x w
  obj : w.heap[gb]? = some (.cells (gArr lb b gL cL gF cF x.nm) 72 (0, 0))
  lim : LR S w gL x.cs.length x.nm L
  fr : FR w gF fl x.nm
  hg : G gb ∧ G gL ∧ G gF
  hs : ∀ j, S j → G j ∧ j ≠ gF
  nm : x.nm = l.nm
  nc : x.cs.length = l.nc
  out : ∀ a, ¬ a < x.nm → x.S a = fun _ => 0
section
variable {G S : Nat → Prop} {gb lb b gL cL gF cF : Nat} {l k : LM} {x y : WM} {L : Nat → Lim} {fl fm : Nat → Bool} {w w' : World}
theorem GS.c0 (h : GS G S gb lb b gL cL gF cF l x L fl w) : w.cell? ⟨gb, 0, none⟩ = some (.pointer (some ⟨lb, 0, none⟩)) := obj_cell h.obj rfl
theorem GS.c1 (h : GS G S gb lb b gL cL gF cF l x L fl w) : w.cell? ⟨gb, 1, none⟩ = some (.pointer (some ⟨b, 0, none⟩)) := obj_cell h.obj rfl
theorem GS.c2 (h : GS G S gb lb b gL cL gF cF l x L fl w) : w.cell? ⟨gb, 2, none⟩ = some (.slice (some ⟨gL, 0, none⟩) x.nm cL) := obj_cell h.obj rfl
theorem GS.c3 (h : GS G S gb lb b gL cL gF cF l x L fl w) : w.cell? ⟨gb, 3, none⟩ = some (.slice (some ⟨gF, 0, none⟩) x.nm cF) := obj_cell h.obj rfl
theorem GS.gbF (h : GS G S gb lb b gL cL gF cF l x L fl w) : gb ≠ gF := by obtain ⟨cs, hy, _⟩ := h.fr; exact obj_ne h.obj hy (by decide)
theorem GS.gLF (h : GS G S gb lb b gL cL gF cF l x L fl w) : gL ≠ gF := by obtain ⟨cs, hy, _⟩ := h.fr; obtain ⟨ds, hz, _⟩ := h.lim; exact obj_ne hz hy (by decide)
theorem GS.nm16 (h : GS G S gb lb b gL cL gF cF l x L fl w) : x.nm ≤ 16 := by obtain ⟨P, _, _, _, _, h⟩ := h.st.wp; exact h.nm
theorem GS.chk (h : GS G S gb lb b gL cL gF cF l x L fl w) : chkT x.cs = 0 := by obtain ⟨P, _, _, _, _, h⟩ := h.st.wp; exact h.chk
theorem GS.in64 (h : GS G S gb lb b gL cL gF cF l x L fl w) : ∀ m c, In64 (x.S m c) := by obtain ⟨P, _, _, _, _, h⟩ := h.st.wp; exact h.in64
/-- the ledger, or the worths, have been called -/
theorem GS.call (h : GS G S gb lb b gL cL gF cF l x L fl w) (hS : WSt G lb b k y w') (hK : Kp (fun j => ¬ G j) w w') (h1 : y.nm = x.nm) (h2 : y.cs.length = x.cs.length) (h3 : l.like k) (h4 : ∀ a, ¬ a < x.nm → y.S a = fun _ => 0) : GS G S gb lb b gL cL gF cF k y L fl w' := by
  have hb : ∀ j, j < w.heap.size → G j → w'.heap[j]? = w.heap[j]? := fun j hj hg => hK.block j hj (fun e => e hg)
  refine ⟨hS, ?_, ?_, ?_, h.hg, h.hs, ?_, ?_, ?_⟩
  · rw [h1]; exact (hb _ (obj_lt h.obj) h.hg.1).trans h.obj
  · rw [h1, h2]; exact h.lim.at hK.size (hb _ h.lim.lt h.hg.2.1) fun j hj hs => hb j hj (h.hs j hs).1
  · rw [h1]; exact h.fr.at (hb _ h.fr.lt h.hg.2.2)
  · rw [h1, h.nm, h3.1]
  · rw [h2, h.nc, h3.2]
  · rw [h1]; exact h4
theorem GS.below (h : GS G S gb lb b gL cL gF cF l x L fl w) (hb : Below w.heap.size w w') : GS G S gb lb b gL cL gF cF l x L fl w' := h.call (h.st.below hb) (Kp.of_below hb) rfl rfl ⟨rfl, rfl⟩ h.out
theorem GS.moved (h : GS G S gb lb b gL cL gF cF l x L fl w) (m : Int) (hS : WSt G lb b l (x.moved l m) w') (hK : Kp (fun j => ¬ G j) w w') : GS G S gb lb b gL cL gF cF l (x.moved l m) L fl w' := by
  refine h.call hS hK ?_ ?_ ⟨rfl, rfl⟩ ?_
  · unfold WM.moved; split <;> rfl
  · unfold WM.moved; split <;> rfl
  · intro a ha
    unfold WM.moved
    split
    · rename_i hm
      obtain ⟨i, rfl, hi⟩ := WM.has_nat hm
      show (if a = (i : Int).toNat then _ else _) = _
      rw [Int.toNat_natCast, if_neg (by omega)]
      exact h.out a ha
    · exact h.out a ha
theorem GS.more {G' : Nat → Prop} (h : GS G S gb lb b gL cL gF cF l x L fl w) (hb : Below w.heap.size w w') (hG : ∀ j, j < w.heap.size → (G' j ↔ G j)) (hl : ∀ j, G' j → j < w'.heap.size) : GS G' S gb lb b gL cL gF cF l x L fl w' := by
  have h2 := h.below hb
  exact ⟨h.st.more hb (fun j hj => (hG j hj).1) hl, h2.obj, h2.lim, h2.fr, ⟨(hG _ (obj_lt h.obj)).2 h.hg.1, (hG _ h.lim.lt).2 h.hg.2.1, (hG _ h.fr.lt).2 h.hg.2.2⟩, fun j hj => ⟨(hG j (h.st.lt j (h.hs j hj).1)).2 (h.hs j hj).1, (h.hs j hj).2⟩, h.nm, h.nc, h.out⟩
theorem GS.less {G' : Nat → Prop} (h : GS G' S gb lb b gL cL gF cF l x L fl w) (hG : ∀ j, G j → G' j) (hg : G gb ∧ G gL ∧ G gF) (hs : ∀ j, S j → G j) : GS G S gb lb b gL cL gF cF l x L fl w := ⟨h.st.less hG, h.obj, h.lim, h.fr, hg, fun j hj => ⟨hs j hj, (h.hs j hj).2⟩, h.nm, h.nc, h.out⟩
theorem GS.setF (h : GS G S gb lb b gL cL gF cF l x L fl w) {m : Nat} (hm : m < x.nm) (v : Bool) : GS G S gb lb b gL cL gF cF l x L (upd fl m v) (w.setCell ⟨gF, m, none⟩ (.bool v)) := by
  have hK : Kp (fun j => j = gF) w (w.setCell ⟨gF, m, none⟩ (.bool v)) := (Kp.refl (fun j => j = gF) w).setCell (p := ⟨gF, m, none⟩) (.inl rfl) _
  have hb : ∀ j, j < w.heap.size → j ≠ gF → (w.setCell ⟨gF, m, none⟩ (.bool v)).heap[j]? = w.heap[j]? := fun j hj hn => hK.block j hj hn
  exact ⟨h.st.kp hK fun j e => by rw [e]; exact h.hg.2.2, (hb _ (obj_lt h.obj) h.gbF).trans h.obj, h.lim.at hK.size (hb _ h.lim.lt h.gLF) (fun j hj hs => hb j hj (h.hs j hs).2), h.fr.set hm v, h.hg, h.hs, h.nm, h.nc, h.out⟩
theorem GS.flags (h : GS G S gb lb b gL cL gF cF l x L fl w) (e : ∀ m, m < x.nm → fl m = fm m) : GS G S gb lb b gL cL gF cF l x L fm w := ⟨h.st, h.obj, h.lim, h.fr.congr e, h.hg, h.hs, h.nm, h.nc, h.out⟩
end
end Go.Proofs.YtiehbbhjpcnbnaaGreat
